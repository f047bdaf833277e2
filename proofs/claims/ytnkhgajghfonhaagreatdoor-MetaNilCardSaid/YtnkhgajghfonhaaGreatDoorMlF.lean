/- metalog: the iterator over the names of a fold's leavers. -/
import Derived.Test.YtnkhgajghfonhaaGreatDoorMlDE
namespace Go.Proofs.YtnkhgajghfonhaaGreatDoor
attribute [local go_sem] Oper.semAt_some
open Go Go.ChangeShapes Go.WideShapes Go.ChangeAt Go.RowKit
set_option linter.unusedVariables false

theorem grown_of_below {u v : World} (h : Below u.heap.size u v) : u.grownBy v none := ⟨h.os, h.tape, h.output, h.size, fun k hk _ => h.block k hk⟩
theorem LoopOwn.kept {β : Type} {S : Nat → Prop} {W0 : World} {B : Nat} (hB : W0.heap.size ≤ B) : LoopOwn B (fun (_ : β) U => Kept S W0 U) :=
  fun _ _ _ row h hg hr => Ch.grown h hg (fun k e => .inr (Nat.le_trans hB (hr k e).1))
theorem LoopOwn.size_ {β : Type} {B m : Nat} : LoopOwn B (fun (_ : β) (U : World) => m ≤ U.heap.size) := fun _ _ _ _ h hg _ => Nat.le_trans h hg.size
theorem LoopOwn.and {β : Type} {B : Nat} {I K : β → World → Prop} (h : LoopOwn B I) (k : LoopOwn B K) : LoopOwn B (fun s U => I s U ∧ K s U) := fun s W W' row hs hg hr => ⟨h s W W' row hs.1 hg hr, k s W W' row hs.2 hg hr⟩
theorem LoopOwn.map {β γ : Type} {B : Nat} {I : γ → World → Prop} (h : LoopOwn B I) (g : β → γ) : LoopOwn B (fun s U => I (g s) U) := fun s W W' row hs hg hr => h (g s) W W' row hs hg hr
theorem LoopOwn.pure_ {β : Type} {B : Nat} (p : β → Prop) : LoopOwn B (fun s (_ : World) => p s) := fun _ _ _ _ h _ _ => h

theorem below_undrew {V w : World} (h : Below V.drew.heap.size V.drew w) : Below V.heap.size V w := ⟨h.os, h.tape, h.output, h.size, h.block⟩
theorem two_ways {e : Ending} {A B : Prop} (h : (e = .returned (.bool true) ∧ A) ∨ (e = .returned (.bool false) ∧ B)) : ∃ hv, e = .returned (.bool hv) ∧ ((hv = true ∧ A) ∨ (hv = false ∧ B)) :=
  h.elim (fun ⟨a, b⟩ => ⟨true, a, .inl ⟨rfl, b⟩⟩) (fun ⟨a, b⟩ => ⟨false, a, .inr ⟨rfl, b⟩⟩)
section
variable {S : Nat → Prop} {D : Nat} {V V' W0 : World}
theorem lv_book (h : Kept (fun k => S k ∨ (D ≤ k ∧ k < D + 4)) V V') (hV : D + 4 ≤ V.heap.size) (hs : W0.heap.size = D + 2) : BookKept W0.heap.size V V' := by
  rw [hs]
  exact ⟨h.same (.inr ⟨by omega, by omega⟩) (by omega), h.same (.inr ⟨by omega, by omega⟩) (by omega)⟩
theorem lv_kept (h : Kept (fun k => S k ∨ (D ≤ k ∧ k < D + 4)) V V') : Kept S V V' := h.mono fun k _ hn hk => hn (.inl hk)
theorem lv_more (h0 : Kept (fun k => S k ∨ (D ≤ k ∧ k < D + 2)) W0 V) (h : Kept (fun k => S k ∨ (D ≤ k ∧ k < D + 4)) V V') (hs : W0.heap.size = D + 2) : Kept (fun k => S k ∨ (D ≤ k ∧ k < D + 2)) W0 V' :=
  h0.trans (h.mono fun k _ hn hk => hn (hk.elim .inl (fun h => .inr ⟨h.1, by omega⟩)))
end
def noPanic (Q : Exit → Act → World → Prop) : Exit → Act → World → Prop
  | .panic _, _, _ => False
  | .outgrown, _, _ => False
  | e, a, w => Q e a w
theorem noPanic_le {Q : Exit → Act → World → Prop} : ∀ e a w, noPanic Q e a w → Q e a w
  | .normal, _, _, h => h
  | .ret, _, _, h => h
  | .exit _, _, _, h => h
  | .goto _, _, _, h => h
  | .panic _, _, _, h => h.elim
  | .outgrown, _, _, h => h.elim
theorem room_wide (k : Nat) : Fence.wide.room k := fun d h => by cases h
theorem RoundIn.deep {m m' : Nat} {P : Program} {l : Nat} {f : FuncId} {tmps : Array Value} {assign body : Code} {w : World} {R : Ending → World → Prop} (h : RoundIn Fence.wide m P l f tmps assign body w R) : RoundIn Fence.wide m' P l f tmps assign body w R := ⟨h.1, fun c cs _ => h.2 c cs (room_wide _)⟩
set_option maxRecDepth 100000 in
set_option maxHeartbeats 16000000 in
theorem leave_seq (n : Nat) (hn : 4 ≤ n) (B l p1 p2 p3 q : Nat) (S : Nat → Prop) (rs : List Mr) (fs : List Int) (hrl : rs.length ≤ 1000000000) (hfl : fs.length ≤ 1000000000) (hin : ∀ r ∈ rs, in64 r.id) (hfn : ∀ i ∈ fs, in64 i) (rA : Option Addr) (rc : Nat) (fA : Option Addr) (fc : Nat) (N : Int) (W : World)
    (h : LvAt B l p1 p2 p3 q S rs fs rA rc fA fc N W) :
    SeqAt Fence.wide n Tryz.prog 66 #[.pointer (some ⟨p1, 0, none⟩), .pointer (some ⟨p2, 0, none⟩), .pointer (some ⟨p3, 0, none⟩)] (fun x : Nm => #[.string (txt x)])
      (fun pre x U => (∃ post, lvN (leI N) (neI N) rs fs = pre ++ x :: post) ∧ W.heap.size + 4 ≤ U.heap.size) (Kept fun k => S k ∨ (W.heap.size ≤ k ∧ k < W.heap.size + 4)) (fun xs => xs = lvN (leI N) (neI N) rs fs) W := by
  intro L J Jx hJ hJx hY h0
  have hn1 : 1 ≤ n := by omega
  have hn2 : 1 ≤ n - 1 - 1 := by omega
  have hn3 : 1 ≤ n - 1 - 1 - 1 := by omega
  have HJ := Lib.hid hJ
  have HJX := Lib.hid hJx
  have HY := Lib.hid hY
  have HLV := Lib.hid h
  have x1 : W.cell? ⟨p1, 0, none⟩ = some (.pointer (some ⟨l, 0, none⟩)) := h.x1.cell 0
  have z1 := h.x1.lt
  have hin := Lib.hid hin
  have hfn := Lib.hid hfn
  clear hJ hJx hY h
  refine callsIn_of_wp_marks Tryz.func66 rfl trivial ?_ rfl
  simp only [Tryz.ntmps66, List.size_toArray, List.length_cons, List.length_nil, Nat.reduceAdd, Nat.reduceSub, Array.replicate_succ, Array.replicate_zero, List.push_toArray, List.append_toArray, List.nil_append, List.cons_append]
  gi_wp2_with (first
    | (refine ⟨trivial, ?_⟩; gi_at_call 51; go_loud (refine (callsIn_wide.2 (all_any _ _ _)).mono ?_; rintro e w1 ⟨rfl, rfl⟩)))
  obtain ⟨W0, hW0⟩ : ∃ W0, (W.alloc (.cells #[.func (.yield L) #[] #[]] 126)).alloc (.cells #[.pointer (some ⟨l, 2, none⟩)] 68) = W0 := ⟨_, rfl⟩
  have hsz : W0.heap.size = W.heap.size + 2 := by rw [← hW0]; simp
  have hg0 : W.grownBy W0 none := by rw [← hW0]; exact grown_of_below (((Below.refl _ W).alloc (Nat.le_refl _) _).alloc (by simp) _)
  have hy4 : Cells W0 W.heap.size #[.func (.yield L) #[] #[]] 126 := by rw [← hW0]; exact (Cells.new W _ _).alloc _
  have hbx : Cells W0 (W.heap.size + 1) #[.pointer (some ⟨l, 2, none⟩)] 68 := by rw [← hW0]; exact cells_at _ _ (by simp) _ _
  rw [hW0]
  have HG0 := Lib.hid hg0
  have HSZ := Lib.hid hsz
  have HY4 := Lib.hid hy4
  have HSL := Lib.hid HLV.out.lt
  have HBW := Lib.hid (show B ≤ W.heap.size from by
    cases B with
    | zero => exact Nat.zero_le _
    | succ b => exact HLV.out.lt b (HLV.out.s.2.2.2.2.2.2.2 b (Nat.lt_succ_self b)))
  clear hW0 hy4 hg0
  refine range_nest rfl (by omega) (gf := 79) (lb := #[.pointer (some ⟨W.heap.size + 1, 0, none⟩)]) rfl trivial (enters_of Tryz.func79 (by kernel_rfl) rfl)
    (fun W1 hg hs1 => all_seq (n - 1) (by omega) rs hrl l 2 rc (W.heap.size + 1) rA S W1 ((Kept.grown (S := fun _ => True) hg).cells trivial hbx) ((HLV.out.kept (Kept.trans (Kept.grown HG0.out) (Kept.grown hg))).rows) ((HLV.out.kept (Kept.trans (Kept.grown HG0.out) (Kept.grown hg))).row) (fun a ha => HLV.out.s.2.2.2.2.2.1 a ha)) (fun _ => rfl)
    Kept.trans (fun hg => Kept.grown hg) (fun U o => (ch_put U _ o).mono fun k _ e hk => by have := HSL.out k hk; omega)
    (fun pre U => (J (bNames (leI N) pre) U ∧ Kept (fun k => S k ∨ (W.heap.size ≤ k ∧ k < W.heap.size + 2)) W0 U) ∧ W.heap.size + 4 ≤ U.heap.size) (fun c pre U => c = .ret ∧ ∃ ns, Jx ns U)
    ((((HJ.out.mono (by omega)).map _).and (LoopOwn.kept (Nat.le_refl _))).and LoopOwn.size_) (fun c _ _ _ row h1 hg hr => ⟨h1.1, h1.2.choose, HJX.out _ _ _ row h1.2.choose_spec hg (fun r e => ⟨by have := (hr r e).1; omega, (hr r e).2⟩)⟩)
    (fun pre => LoopOwn.pure_ _) ?start boxE (fun x U => World.grownBy_alloc U _ none) AtE (fun x U r r' hb => AtE.made hb.lt _) ?a1 ?assign ?body ?done ?stop
  case start =>
    intro W1 hg hs1
    exact ⟨⟨HJ.out.grow (HJ.out.grow h0 HG0.out) hg, Kept.grown hg⟩, by omega⟩
  case assign =>
    intro l0 x U K hK
    unfold mrEnc
    gi_wp2
    exact hK
  case body =>
    rintro l0 pre x U V ⟨⟨hJp, hKp⟩, hVs⟩ ⟨post, hpre⟩ hat
    have hkS : Kept S W V := Kept.trans (Kept.grown HG0.out) (hKp.mono fun k _ hn hk => hn (.inl hk))
    have HV := Lib.hid (HLV.out.kept hkS)
    have y2 : V.cell? ⟨p2, 0, none⟩ = some (.func (.func 31) #[] #[.pointer (some ⟨q, 0, none⟩)]) := HV.out.x2.cell 0
    have y4 : V.cell? ⟨W.heap.size, 0, none⟩ = some (.func (.yield L) #[] #[]) := (hKp.cells (.inr ⟨Nat.le_refl _, by omega⟩) HY4.out).cell 0
    have e2 := hat.c2
    have HF1 := Lib.hid (fun (U' : World) (hc : U'.cell? ⟨q, 0, none⟩ = V.cell? ⟨q, 0, none⟩) => fold1_any x.id N q U' (hc.trans HV.out.n))
    have HHX := Lib.hid (fun (U' : World) (hb : Below V.heap.size V U') => hex_any x.id (hin.out x (by rw [hpre]; simp)) U' (HV.out.tab.below (hb.mono (Nat.le_trans HBW.out hkS.size))) (Nat.le_trans HBW.out (Nat.le_trans hkS.size hb.size)))
    have HKP := Lib.hid hKp
    have HVS := Lib.hid hVs
    have HSN := Lib.hid (bNames_snoc (leI N) pre x)
    clear hat
    cases hsi : x.si with
    | false =>
      have HJV := Lib.hid (show J (bNames (leI N) (pre ++ [x])) V by rw [HSN.out, hsi]; simpa using hJp)
      rw [hsi] at e2
      have mixed : Tryz.prog.follows .mixedOrders = true := by kernel_rfl
      gi_wp2
      gi_region_with_o (first | (refine ⟨fun f h => (by cases h), ?_⟩) | (refine ⟨trivial, ?_⟩))
      all_goals gi_wp2
      all_goals exact ⟨⟨rfl, rfl⟩, Ch.drew (Ch.refl _ V), ⟨HJ.out.grow HJV.out (grown_of_below (Below.refl _ V).drew), HKP.out.drew⟩, HVS.out⟩
    | true =>
      rw [hsi] at e2
      have mixed : Tryz.prog.follows .mixedOrders = true := by kernel_rfl
      cases hle : leI N x.id with
      | false =>
        have HJV := Lib.hid (show J (bNames (leI N) (pre ++ [x])) V by rw [HSN.out, hle]; simpa using hJp)
        rw [hle] at HF1
        gi_wp2
        gi_region_with_o (first | (refine ⟨trivial, ?_⟩; gi_at_call 31; go_loud (refine (CallsIn.inRound l0 (callsIn_wide.2 (HF1.out V.drew rfl))).mono ?_; rintro e w4 ⟨rfl, rfl⟩)) | (refine ⟨fun f h => (by cases h), ?_⟩) | (refine ⟨trivial, ?_⟩))
        all_goals gi_wp2
        all_goals exact ⟨⟨rfl, rfl⟩, Ch.drew (Ch.refl _ V), ⟨HJ.out.grow HJV.out (grown_of_below (Below.refl _ V).drew), HKP.out.drew⟩, HVS.out⟩
      | true =>
        have hname : ∃ post2, lvN (leI N) (neI N) rs fs = bNames (leI N) pre ++ bN x.id :: post2 := by
          refine ⟨bNames (leI N) post ++ fNames (neI N) fs, ?_⟩
          unfold lvN bNames
          rw [hpre]
          simp [hsi, hle]
        have HSN2 := Lib.hid (show bNames (leI N) (pre ++ [x]) = bNames (leI N) pre ++ [bN x.id] by rw [HSN.out, hsi, hle]; rfl)
        rw [hle] at HF1
        have HYY := Lib.hid (fun (U' : World) (hg : V.grownBy U' none) => HY.out _ _ U' (HJ.out.grow hJp hg) ⟨hname, Nat.le_trans hVs hg.size⟩)
        have HBN := Lib.hid (bN_txt x.id)
        have hls : ¬ 9223372036854775807 < (⟨#[98, 46]⟩ : ByteArray).size + (txt (hexL x.id)).size := by rw [txt_size, hexL_length]; decide
        gi_wp2
        gi_region_with_o (first
          | (refine ⟨trivial, ?_⟩; gi_at_call 31; go_loud (refine (CallsIn.inRound l0 (callsIn_wide.2 (HF1.out V.drew rfl))).mono ?_; rintro e w4 ⟨rfl, rfl⟩))
          | (refine ⟨trivial, ?_⟩; gi_at_call 41; refine (CallsIn.inRound l0 (callsIn_wide.2 (HHX.out V.drew (Below.refl _ V).drew))).mono ?_; go_loud (rintro e w3 ⟨rfl, hb3⟩; obtain ⟨fn, tmps_, assign, body, hy, hR⟩ := HYY.out w3 (grown_of_below (below_undrew hb3)); have HR := Lib.hid hR; have HG3 := Lib.hid (below_undrew hb3); clear hR hb3; have y4' := cell_later HG3.out y4; rw [← HBN.out] at hy))
          | (refine (RoundIn.deep HR.out).mono ?_; rintro e W3 h3; obtain ⟨hv, he4, h4⟩ := two_ways h3; have H3 := Lib.hid h4; clear h3 h4; subst he4))
        all_goals (have h3 := H3.out; clear H3; rcases h3 with ⟨rfl, hJ3, hk3⟩ | ⟨rfl, hJ3, hk3⟩)
        all_goals (have HJ3 := Lib.hid hJ3; have HK3 := Lib.hid (Kept.trans (Kept.grown (grown_of_below HG3.out)) hk3); clear hJ3 hk3)
        all_goals gi_wp2
        all_goals first
          | exact ⟨lv_book HK3.out HVS.out HSZ.out, lv_kept HK3.out, ⟨by rw [HSN2.out]; exact HJ3.out, lv_more HKP.out HK3.out HSZ.out⟩, Nat.le_trans HVS.out HK3.out.size⟩
          | exact ⟨lv_book HK3.out HVS.out HSZ.out, lv_kept HK3.out, rfl, _, HJ3.out⟩
  case done =>
    rintro xs V hxs ⟨⟨hJp, hKp⟩, hVs⟩ hK
    have hxs2 : xs = rs := hxs
    rw [hxs2] at hJp
    have hkS : Kept S W V := Kept.trans (Kept.grown HG0.out) (hKp.mono fun k _ hn hk => hn (.inl hk))
    have HV := Lib.hid (HLV.out.kept hkS)
    have y1 : V.cell? ⟨p1, 0, none⟩ = some (.pointer (some ⟨l, 0, none⟩)) := HV.out.x1.cell 0
    have y5 := HV.out.folds
    have HK := Lib.hid hK
    have HJ0 := Lib.hid hJp
    have HK0 := Lib.hid hKp
    have HVS := Lib.hid hVs
    rw [hsz] at HK ⊢
    clear hK hJp hKp hVs hsz
    gi_wp2
    gi_loopw [35] (fun i U => ∃ k : Nat, i = .int .i64 (k : Int) ∧ k ≤ fs.length ∧ Hid (J (bNames (leI N) rs ++ fNames (neI N) (fs.take k)) U) ∧ Hid (Kept (fun k => S k ∨ (W.heap.size ≤ k ∧ k < W.heap.size + 4)) V U)) (fun i _ => fs.length - (intOf i).toNat)
    case atStart => exact ⟨0, rfl, Nat.zero_le _, Lib.hid (by simpa [fNames] using HJ0.out), Lib.hid (Ch.refl _ _)⟩
    case round =>
      obtain ⟨k, rfl, hk, HJp, HMID⟩ := hrel
      by_cases hlt : k < fs.length
      · have hkU : Kept S V wr := HMID.out.mono fun k _ hn hk => hn (.inl hk)
        have HU := Lib.hid (HV.out.kept hkU)
        obtain ⟨b, off, rfl, hb, hc⟩ := HU.out.ints k hlt
        have y3 : wr.cell? ⟨p3, 0, none⟩ = some (.func (.func 32) #[] #[.pointer (some ⟨q, 0, none⟩)]) := HU.out.x3.cell 0
        have y4 : wr.cell? ⟨W.heap.size, 0, none⟩ = some (.func (.yield L) #[] #[]) := ((HMID.out.cells (.inr ⟨Nat.le_refl _, by omega⟩) (HK0.out.cells (.inr ⟨Nat.le_refl _, by omega⟩) HY4.out))).cell 0
        have HT := Lib.hid (fNames_take (neI N) fs k hlt)
        have hpre : fs = fs.take k ++ fs[k] :: fs.drop (k + 1) := by rw [← List.drop_eq_getElem_cons hlt, List.take_append_drop]
        have HIN := Lib.hid (hfn.out _ (List.getElem_mem hlt))
        obtain ⟨x, hx⟩ : ∃ x, fs[k] = x := ⟨_, rfl⟩
        rw [hx] at hc HT hpre HIN
        have HF2 := Lib.hid (fun (U' : World) (hc : U'.cell? ⟨q, 0, none⟩ = wr.cell? ⟨q, 0, none⟩) => fold2_any x N q U' (hc.trans HU.out.n))
        have HHX := Lib.hid (fun (U' : World) (hb : Below wr.heap.size wr U') => hex_any x HIN.out U' (HU.out.tab.below (hb.mono (Nat.le_trans HBW.out (Nat.le_trans hkS.size hkU.size)))) (Nat.le_trans HBW.out (Nat.le_trans hkS.size (Nat.le_trans hkU.size hb.size))))
        have i1 : (0 : Int) ≤ (k : Int) := by omega
        have i2 : (k : Int) < (fs.length : Int) := by omega
        have mixed : Tryz.prog.follows .mixedOrders = true := by kernel_rfl
        clear hx
        cases hle : neI N x with
        | false =>
          have HJV := Lib.hid (show J (bNames (leI N) rs ++ fNames (neI N) (fs.take (k + 1))) wr by rw [HT.out, hle]; simpa using HJp.out)
          rw [hle] at HF2
          clear hpre
          have HQ2 := fun k => (HF2.out (wr.drewN k) rfl).mono fun e w' (h : _ ∧ _) => (⟨h.1, h.2.symm⟩ : e = .returned (.bool false) ∧ w' = wr.drewN k)
          gi_wp2
          refine wpIn_region_quiet_lit rfl (by kernel_rfl) (by kernel_rfl) ?_
          repeat (refine wpQuietIn_step (by first | quiet_asked_in | (go_simp; intros; trivial)) (fun K hK => ?_); go_simp; first | (refine hK _ ?_; clear hK K) | (apply Exists.intro; refine ⟨fun _ => ?_, hK _ ?_⟩; (gi_at_call 32; exact CallsIn.quiet_of_same (callsIn_wide.2 (HQ2 _))); clear hK K))
          refine wpQuietIn_nil ?_
          rintro _ ⟨nq, rfl⟩
          gi_wp2
          go_roundw
          case rel => exact ⟨k + 1, by go_num, by omega, Lib.hid (HJ.out.grow HJV.out (grown_of_below (below_drewN wr _))), Lib.hid (HMID.out.drewN _)⟩
          case measure => simp [intOf]; omega
        | true =>
          have hname : ∃ post2, lvN (leI N) (neI N) rs fs = (bNames (leI N) rs ++ fNames (neI N) (fs.take k)) ++ fN x :: post2 := by
            refine ⟨fNames (neI N) (fs.drop (k + 1)), ?_⟩
            unfold lvN
            conv => lhs; rw [hpre]
            unfold fNames
            simp [hle]
          have HSN2 := Lib.hid (show bNames (leI N) rs ++ fNames (neI N) (fs.take (k + 1)) = (bNames (leI N) rs ++ fNames (neI N) (fs.take k)) ++ [fN x] by rw [HT.out, hle]; simp)
          rw [hle] at HF2
          have HYY := Lib.hid (fun (U' : World) (hg : wr.grownBy U' none) => HY.out _ _ U' (HJ.out.grow HJp.out hg) ⟨hname, Nat.le_trans HVS.out (Nat.le_trans HMID.out.size hg.size)⟩)
          have HBN := Lib.hid (fN_txt x)
          have hls : ¬ 9223372036854775807 < (⟨#[102, 46]⟩ : ByteArray).size + (txt (hexL x)).size := by rw [txt_size, hexL_length]; decide
          clear hpre
          gi_wp2
          refine wpIn_mono ?_ noPanic_le
          gi_region_with_o (first
            | (refine ⟨trivial, ?_⟩; gi_at_call 32; refine (callsIn_wide.2 (HF2.out wr.drew rfl)).mono ?_; rintro e w4 ⟨rfl, rfl⟩)
            | (refine ⟨trivial, ?_⟩; gi_at_call 41; refine (callsIn_wide.2 (HHX.out wr.drew (Below.refl _ wr).drew)).mono ?_; rintro e w3 ⟨rfl, hb3⟩; obtain ⟨fn, tmps_, assign, body, hy, hR⟩ := HYY.out w3 (grown_of_below (below_undrew hb3)); have HR := Lib.hid hR; have HG3 := Lib.hid (below_undrew hb3); clear hR hb3; have y4' := cell_later HG3.out y4; rw [← HBN.out] at hy)
            | (refine (RoundIn.deep HR.out).mono ?_; rintro e W3 h3; obtain ⟨hv, he4, h4⟩ := two_ways h3; have H3 := Lib.hid h4; clear h3 h4; subst he4))
          all_goals (unfold noPanic; have h3 := H3.out; clear H3; rcases h3 with ⟨rfl, hJ3, hk3⟩ | ⟨rfl, hJ3, hk3⟩)
          all_goals (have HJ3 := Lib.hid hJ3; have HK3 := Lib.hid (Kept.trans (Kept.grown (grown_of_below HG3.out)) hk3); clear hJ3 hk3)
          all_goals gi_wp2
          all_goals first
            | (have hD := (HK3.out.same (k := W.heap.size + 2) (.inr ⟨by omega, by omega⟩) (by have := HVS.out; have := HMID.out.size; omega)).trans ((HMID.out.same (k := W.heap.size + 2) (.inr ⟨by omega, by omega⟩) (by have := HVS.out; omega)).trans HK.out); refine ⟨by simp, .inl ⟨_, _, rfl, run_takeDeferred hD, ?_⟩⟩; exact ⟨.tuple #[], by simp [results, Tryz.results66, go_sem], ⟨_, rfl⟩, .inr ⟨_, HJX.out.done HJ3.out (by omega) hD _⟩⟩)
            | (go_roundw; (case rel => exact ⟨k + 1, by go_num, by omega, Lib.hid (by rw [HSN2.out]; exact HJ3.out), Lib.hid (HMID.out.trans HK3.out)⟩); (case measure => simp [intOf]; omega))
            | trace_state
      · have hke : k = fs.length := by omega
        have h := HJp.out
        rw [List.take_of_length_le (by omega)] at h
        have HE := Lib.hid h
        have HKK := Lib.hid (((HMID.out.same (k := W.heap.size + 2) (.inr ⟨by omega, by omega⟩) (by have := HVS.out; omega))).trans HK.out)
        clear h hke
        gi_wp2
        refine ⟨by simp, .inl ⟨_, _, rfl, run_takeDeferred HKK.out, ?_⟩⟩
        exact ⟨.tuple #[], by simp [results, Tryz.results66, go_sem], ⟨_, rfl⟩, .inl ⟨_, rfl, HJ.out.done HE.out (by omega) HKK.out _⟩⟩
  case stop =>
    rintro c pre V ⟨rfl, ns, hJx⟩ hK
    have HJ3 := Lib.hid hJx
    have HK := Lib.hid hK
    rw [hsz] at HK ⊢
    clear hJx hK hsz
    gi_wp2
    refine ⟨by simp, .inl ⟨_, _, rfl, run_takeDeferred HK.out, ?_⟩⟩
    exact ⟨.tuple #[], by simp [results, Tryz.results66, go_sem], ⟨_, rfl⟩, .inr ⟨_, HJX.out.done HJ3.out (by omega) HK.out _⟩⟩
end Go.Proofs.YtnkhgajghfonhaaGreatDoor
