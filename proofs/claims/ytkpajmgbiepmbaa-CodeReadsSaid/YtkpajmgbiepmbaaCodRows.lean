/- The walks of items for rows, and of row. -/
import Derived.Test.YtkpajmgbiepmbaaCodItems
namespace Go.Proofs.Ytkpajmgbiepmbaa
open Go.ChangeShapes Go.WideShapes Go.ChangeAt Go.RowKit
open Go.Lib (byteCells byteCells_length byteCells_append strCells)
set_option linter.unusedVariables false

theorem rrow_walk (r : Nat) (l : List UInt8) (w : World) (h : Rd w r l) (hl : l.length ≤ 16777216) :
    Calls Try.prog 51 #[.pointer (some ⟨r, 0, none⟩)] w (ItemsPost r 85 3 V.cells (rRow l) w) := by
  have HI := Lib.hid (items_val r l w h hl)
  unfold rRow
  cases hu : rList rVal 12 l with
  | none =>
    rw [hu] at HI
    clear h
    go_enter Try.func51, Try.ntmps51
    go_wp2_with (go_at_call 72; refine HI.out.mono ?_; rintro e w1 ⟨rfl, hp1⟩; have HP1 := Lib.hid hp1; clear hp1)
    exact ⟨rfl, rfl, HP1.out⟩
  | some p =>
    rw [hu] at HI
    clear h
    go_enter Try.func51, Try.ntmps51
    go_wp2_with (go_at_call 72; refine HI.out.mono ?_; rintro e w1 ⟨A1, c1, rfl, ho1, hr1, hp1⟩; have HO1 := Lib.hid ho1; have HR1 := Lib.hid hr1; have HP1 := Lib.hid hp1; clear hp1 hr1 ho1)
    go_ret
    exact ⟨A1, c1, rfl, HO1.out, HR1.out, HP1.out⟩

/-- What a row of the call's own holds stays, while a row of other items grows. -/
theorem own_type {w w' : World} {base B : Nat} {E F : TypeId} {sz sz' : Nat} {v u : Value} {n k : Nat} {xs ys : List Value} (h : w.ownsRow base E sz v n xs) (ho : w.ownsRow B F sz' u k ys) (hg : w.grownBy w' u.ownBlock) (hne : E ≠ F) : w'.ownsRow base E sz v n xs := by
  refine ⟨h.1, ?_⟩
  rcases h.2 with ⟨rfl, h0⟩ | ⟨g, cap, cur, rfl, hb, hh, rest⟩
  · exact .inl ⟨rfl, h0⟩
  · refine .inr ⟨g, cap, cur, rfl, hb, (hg.block g (Array.getElem?_eq_some_iff.1 hh).1 ?_).trans hh, rest⟩
    intro e
    rcases ho.2 with ⟨rfl, _⟩ | ⟨g', cap', cur', rfl, _, hh', _⟩
    · simp [Value.ownBlock] at e
    · simp only [Value.ownBlock, Option.some.injEq] at e
      subst e
      rw [hh] at hh'
      injection hh' with hh'
      injection hh' with _ h2 _
      exact hne h2

/-- Each of these rows is the call's own. -/
def OwnRs (B : Nat) (rs : List Rw) (w : World) : Prop := ∀ x ∈ rs, w.ownsRow B 85 3 x.val x.l.length (x.l.flatMap V.cells)
theorem OwnRs.past {B r : Nat} {rs : List Rw} {w w' : World} (h : OwnRs B rs w) (hp : Past r w w') (hr : r < B) : OwnRs B rs w' := fun x hx => own_past (h x hx) hp hr
theorem OwnRs.alloc {B : Nat} {rs : List Rw} {w : World} (h : OwnRs B rs w) (o : Obj) : OwnRs B rs (w.alloc o) := fun x hx => (h x hx).alloc o
theorem OwnRs.below {B : Nat} {rs : List Rw} {w w' : World} (h : OwnRs B rs w) (hb : Below w.heap.size w w') : OwnRs B rs w' := fun x hx => own_below (h x hx) hb
theorem OwnRs.grown {B B' : Nat} {rs : List Rw} {w w' : World} {F : TypeId} {u : Value} {k sz : Nat} {ys : List Value} (h : OwnRs B rs w) (ho : w.ownsRow B' F sz u k ys) (hg : w.grownBy w' u.ownBlock) (hne : 85 ≠ F) : OwnRs B rs w' := fun x hx => own_type (h x hx) ho hg hne
theorem OwnRs.snoc {B : Nat} {rs : List Rw} {w : World} {x : Rw} (h : OwnRs B rs w) (hx : w.ownsRow B 85 3 x.val x.l.length (x.l.flatMap V.cells)) : OwnRs B (rs ++ [x]) w := by
  intro y hy
  rcases List.mem_append.1 hy with hy | hy
  · exact h y hy
  · rw [List.mem_singleton.1 hy]
    exact hx

def RowsPost (r : Nat) (o : Option (List (List V) × List UInt8)) (w : World) (e : Ending) (w' : World) : Prop :=
  match o with
  | none => e = .panicked [gaveUp] ∧ Past r w w'
  | some p => ∃ rs A c, rs.map Rw.l = p.1 ∧ e = .returned (.slice A rs.length c) ∧ w'.ownsRow w.heap.size 80 1 (.slice A rs.length c) rs.length (rs.flatMap rCells) ∧ OwnRs w.heap.size rs w' ∧ Rd w' r p.2 ∧ Past r w w'
theorem info_row : (Try.prog.info? 80).map (fun i => (i.zero, i.size, i.bytes)) = some (some (.slice none 0 0), 1, 24) := by kernel_rfl

set_option maxHeartbeats 2000000 in
theorem items_row (r : Nat) (l : List UInt8) (w : World) (h : Rd w r l) (hl : l.length ≤ 16777216) :
    Calls Try.prog 71 #[.pointer (some ⟨r, 0, none⟩), .int .u64 16777216, .func (.func 51) #[] #[]] w (RowsPost r (rList rRow 16777216 l) w) := by
  have HR := Lib.hid h
  have HNE := Lib.hid h.lt
  have hN := number_walk r l w h hl
  rcases hu : unL l with _ | ⟨n, m⟩
  · rw [hu] at hN
    rw [rList_none hu]
    have HN := Lib.hid hN
    clear hN h
    go_enter Try.func71, Try.ntmps71
    go_wp2_with (go_at_call 82; refine HN.out.mono ?_; rintro e w1 ⟨rfl, hp1⟩; have HP1 := Lib.hid hp1; clear hp1)
    exact ⟨rfl, rfl, HP1.out⟩
  · rw [hu] at hN
    have HN := Lib.hid hN
    have HML := Lib.hid (num_codec.less hu)
    by_cases hm : n ≤ 16777216
    · rw [rList_some hu hm]
      have hg1 : decide ((n : Int) ≤ 16777216) = true := decide_eq_true (by omega)
      clear hN h
      go_enter Try.func71, Try.ntmps71
      go_wp2_with (first | (go_at_call 82; refine HN.out.mono ?_; rintro e w1 ⟨rfl, hr1, hp1⟩; have HR1 := Lib.hid hr1; have HP1 := Lib.hid hp1; clear hp1 hr1) | (go_at_call 70; refine (must_ok _ _).mono ?_; rintro e w2 ⟨rfl, rfl⟩))
      clear hg1
      go_loopw [8, 17] (fun lv iv wr => ∃ (k : Nat) (rs : List Rw) (q : List UInt8) (A : Option Addr) (c : Nat), k ≤ n ∧ iv = .int .u64 (k : Int) ∧ lv = .slice A k c ∧ Hid (ManyK rRow n m k (rs.map Rw.l) q) ∧ Hid (q.length ≤ m.length) ∧ Hid (wr.ownsRow w.heap.size 80 1 (.slice A k c) k (rs.flatMap rCells)) ∧ Hid (OwnRs w.heap.size rs wr) ∧ Hid (Rd wr r q) ∧ Hid (PastB r w.heap.size w wr)) (fun _ iv _ => n - (intOf iv).toNat)
      case atStart => exact ⟨0, [], m, none, 0, Nat.zero_le _, rfl, rfl, Lib.hid ManyK.start, Lib.hid (Nat.le_refl _), Lib.hid (World.ownsRow_nil _ _ _ _), Lib.hid (fun x hx => by simp at hx), HR1, Lib.hid ((PastB.refl r _ w).past HP1.out (Nat.le_refl _))⟩
      case round =>
        obtain ⟨k, rs, q, A, c, hk, rfl, rfl, HM, HQ, HO, HRS, HRr, HPr⟩ := hrel
        by_cases hlt : k < n
        · have HW := rrow_walk r q wr HRr.out (by have := HQ.out; have := HML.out; omega)
          have HWS := Lib.hid HPr.out.2.2.2.1
          rcases hd : rRow q with _ | ⟨a, q2⟩
          · rw [hd] at HW
            have HC := Lib.hid HW
            have HF := Lib.hid (HM.out.bad hlt hd)
            clear HW
            go_wp2_with (go_at_call 51; refine HC.out.mono ?_; rintro e w2 ⟨rfl, hp2⟩; have HP2 := Lib.hid (HPr.out.past hp2 HWS.out).whole; clear hp2)
            rw [HF.out]
            exact ⟨rfl, rfl, HP2.out⟩
          · rw [hd] at HW
            have HC := Lib.hid HW
            have HF := Lib.hid (HM.out.next hlt hd)
            have HQ2 := Lib.hid (show q2.length ≤ m.length by have h1 := row_codec.less hd; have := HQ.out; omega)
            clear HW
            go_wp2_with (first | (go_at_call 51; refine HC.out.mono ?_; rintro e w2 ⟨A2, c2, rfl, ho2, hr2, hp2⟩; have HX2 := Lib.hid (show w2.ownsRow w.heap.size 85 3 (Rw.val ⟨A2, c2, a⟩) a.length (a.flatMap V.cells) from ho2.mono HWS.out); have HR2 := Lib.hid hr2; have HO2 := Lib.hid (own_past HO.out hp2 HNE.out); have HRS2 := Lib.hid (HRS.out.past hp2 HNE.out); have HS2 := Lib.hid (Nat.le_trans HWS.out hp2.size); have HP2 := Lib.hid (HPr.out.past hp2 HWS.out); clear hp2 hr2 ho2) | (at_builtin; go_loud (refine append_item Try.underlying33 info_row rfl (by decide) rCells_length rCells_one rfl _ _ rfl w.heap.size A k c rs rfl _ ⟨A2, c2, a⟩ HO2.out HS2.out _ rfl rfl (by omega) (by unfold maxLen; omega) [_] rfl ?_); intro A3 n3 c3 w3 hn3 ho3 hb3 hg3; have HO3 := Lib.hid ho3; have HRS3 := Lib.hid (OwnRs.grown ((HRS2.out.snoc HX2.out).alloc _) (HO2.out.alloc _) hg3 (by decide)); have HR3 := Lib.hid (HR2.out.grown hb3 HNE.out); have HP3 := Lib.hid (HP2.out.below hb3); clear ho3 hb3 hg3; subst hn3))
            go_roundw
            case rel => exact ⟨k + 1, rs ++ [⟨A2, c2, a⟩], q2, A3, c3, by omega, by go_num, rfl, Lib.hid (by rw [List.map_append]; exact HF.out), HQ2, HO3, HRS3, HR3, HP3⟩
            case measure => simp [intOf]; omega
        · have HF := Lib.hid (HM.out.done (by omega))
          have HL := Lib.hid (show rs.length = k by have := HM.out.1; simpa using this)
          have hkn : k = n := by omega
          subst hkn
          go_wp2
          go_ret
          rw [HF.out]
          refine ⟨rs, A, c, rfl, ?_, ?_, HRS.out, HRr.out, HPr.out.whole⟩
          · rw [HL.out]; rfl
          · rw [HL.out]; exact HO.out
    · rw [rList_many hu (by omega)]
      have hg1 : decide ((n : Int) ≤ 16777216) = false := decide_eq_false (by omega)
      have hg2 : decide (n ≤ 16777216) = false := decide_eq_false hm
      clear hN h hm
      go_enter Try.func71, Try.ntmps71
      go_wp2_with (first | (go_at_call 82; refine HN.out.mono ?_; rintro e w1 ⟨rfl, hr1, hp1⟩; have HR1 := Lib.hid hr1; have HP1 := Lib.hid hp1; clear hp1 hr1) | (go_at_call 70; refine (must_no _ _).mono ?_; rintro e w2 ⟨rfl, rfl⟩))
      exact ⟨rfl, rfl, HP1.out⟩
end Go.Proofs.Ytkpajmgbiepmbaa
