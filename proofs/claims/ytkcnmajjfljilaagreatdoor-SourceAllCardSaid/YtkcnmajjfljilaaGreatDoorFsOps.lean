/- What a seat needs of several texts. -/
import Derived.Test.YtkcnmajjfljilaaGreatDoorFsMem
import Derived.Test.YtkcnmajjfljilaaGreatDoorFsShelf
import Derived.Shelf.Abstract
/- From FsOps. -/
namespace Go.Proofs.YtkcnmajjfljilaaGreatDoor
open Go.ChangeShapes Go.WideShapes Go.ChangeAt Go.RowKit Go.ChangeMaps Go.MapKept
set_option linter.unusedVariables false
theorem encStr_txt (l : Nm) : encStr l = .string (txt l) := rfl
theorem risingFile (b : Nat) (l : List (Nm × Nat)) (w : World) (h : MapAt w b l) (hr : Rising l) (hl : l.length ≤ 1000000) :
    Calls Tryz.prog 84 #[.map (some b)] w fun e w' => ∃ v, e = .returned v ∧ w'.ownsRow w.heap.size 9 1 v l.length ((l.map (·.1)).map encStr) ∧ Below w.heap.size w w' := by
  have HC := Lib.hid (callsIn_wide.1 (Tryz.sortedFile b l.length (ents l) ptrElem w h (by rw [size_ents]; unfold maxLen; omega) (by rw [size_ents]; omega)))
  have HK := Lib.hid (fun (ss : List Nm) hp => (sort_keys hr hp : ss.mergeSort leB = l.map (·.1)))
  have HKE := Lib.hid (keys_ents l)
  clear h hr
  go_enter Tryz.func84, Tryz.ntmps84
  go_wp2_with (first
    | (go_at_call 130; refine (callsIn_wide.1 (Tryz.keysFile_call (some b) w)).mono ?_; rintro e w' ⟨rfl, rfl⟩)
    | (go_at_call 129; refine HC.out.mono ?_; rintro e w' ⟨v, ss, rfl, hS, hrow, hnil, hb⟩; have HS := Lib.hid hS; have HR := Lib.hid hrow; have HB := Lib.hid hb; clear hS hrow hnil hb))
  go_ret
  have hs := HS.out
  rw [HKE.out] at hs
  have hl : ss.length = l.length := by rw [hs.length_eq, List.length_map]
  have hrow := HR.out
  have e : (ss.mergeSort fun x y => decide (x ≤ y)) = l.map (·.1) := HK.out ss hs
  rw [e, hl] at hrow
  exact ⟨_, rfl, hrow.mono (by simp), ((Below.refl w.heap.size w).alloc (Nat.le_refl _) _).trans (HB.out.mono (by simp))⟩
/-- The cells of a file system. -/
def fsCells (M : Nat) (room used steps fuse : Int) (on : Bool) : Array Value := #[.map (some M), .int .i64 room, .int .i64 used, .int .i64 steps, .int .i64 fuse, .bool on]
def FsAt (w : World) (f M : Nat) (room used steps fuse : Int) (on : Bool) : Prop := Cells w f (fsCells M room used steps fuse on) 67
section
variable {f M : Nat} {room used steps fuse : Int} {on : Bool} {w : World}
/-- A step at a fuse of none left. -/
theorem step_out (v : Value) (h : FsAt w f M room used steps 0 on) :
    Calls Tryz.prog 70 #[.pointer (some ⟨f, 0, none⟩), v] w fun e w' => e = .returned (.int .i64 60) ∧ FsAt w' f M room used steps 0 false ∧ Ch (· = f) w w' := by
  have c4 : w.cell? ⟨f, 4, none⟩ = some (.int .i64 0) := h.cell 4
  have c5 : w.cell? ⟨f, 5, none⟩ = some (.bool on) := h.cell 5
  have f5 := h.frozen 5
  have H := Lib.hid h
  clear h
  go_enter Tryz.func70, Tryz.ntmps70
  go_wp2
  go_ret
  exact ⟨rfl, H.out.set 5 _, (Ch.refl (· = f) w).set (p := ⟨f, 5, none⟩) (.inl rfl) _⟩
/-- A step that is done: what is done behind it is R's. -/
theorem step_done {R : World → Prop} (g : FuncId) (lb : Array Value) (eg : Enters Tryz.prog g) (h : FsAt w f M room used steps fuse on) (hf : fuse ≠ 0) (hs : 0 ≤ steps ∧ steps < 1000000000) (hfu : -1 ≤ fuse ∧ fuse ≤ 9223372036854775807)
    (hdo : ∀ w1, FsAt w1 f M room used (steps + 1) (if fuse = -1 then -1 else fuse - 1) on → Ch (· = f) w w1 → Calls Tryz.prog g lb w1 fun e w' => e = .returned (.tuple #[]) ∧ R w') :
    Calls Tryz.prog 70 #[.pointer (some ⟨f, 0, none⟩), .func (.func g) #[] lb] w fun e w' => e = .returned (.int .i64 0) ∧ R w' := by
  have c4 : w.cell? ⟨f, 4, none⟩ = some (.int .i64 fuse) := h.cell 4
  have c3 : w.cell? ⟨f, 3, none⟩ = some (.int .i64 steps) := h.cell 3
  have f4 := h.frozen 4
  have f3 := h.frozen 3
  have H := Lib.hid h
  have HD := Lib.hid hdo
  clear h hdo
  have hen : ∀ args W, (callFunc g args).run Tryz.prog W = .ok (.enter g args) W := eg
  clear eg
  obtain ⟨h1, h2⟩ := hfu
  by_cases hm : fuse = -1
  · subst hm
    go_enter Tryz.func70, Tryz.ntmps70
    go_wp2_with (go_at_fn g; refine (HD.out _ ?c1 ?c2).mono ?_; rotate_left 2; rintro e w' ⟨rfl, hr⟩; have HR := Lib.hid hr; clear hr)
    · go_ret
      exact ⟨rfl, HR.out⟩
    · exact H.out.set 3 _
    · exact (Ch.refl (· = f) w).set (p := ⟨f, 3, none⟩) (.inl rfl) _
  · have hn : ¬ fuse = 0 := hf
    have hp : 0 < fuse := by omega
    go_enter Tryz.func70, Tryz.ntmps70
    go_wp2_with (go_at_fn g; refine (HD.out _ ?c3 ?c4).mono ?_; rotate_left 2; rintro e w' ⟨rfl, hr⟩; have HR := Lib.hid hr; clear hr)
    · go_ret
      exact ⟨rfl, HR.out⟩
    · exact (H.out.set 4 _).set 3 _
    · exact ((Ch.refl (· = f) w).set (p := ⟨f, 4, none⟩) (.inl rfl) _).set (p := ⟨f, 3, none⟩) (.inl rfl) _
end
inductive FOp where
  | create (a : Nm) (x : Nat)
  | rename (a b : Nm) (x : Nat)
  | remove (a : Nm)
def FOp.on : FOp → List (Nm × Nat) → List (Nm × Nat)
  | .create a x, l => mset l a x
  | .rename a b x, l => mset (mdel l a) b x
  | .remove a, l => mdel l a
theorem FOp.on_length (o : FOp) (l : List (Nm × Nat)) : (o.on l).length ≤ l.length + 1 := by
  cases o with
  | create a x => exact mset_length _ _ _
  | rename a b x => have := mset_length (mdel l a) b x; have := mdel_length l a; simp only [FOp.on]; omega
  | remove a => have := mdel_length l a; simp only [FOp.on]; omega
def adr (b : Nat) : Value := .pointer (some ⟨b, 0, none⟩)
/-- The function value v does the operation. -/
def OpAt (Kp : Nat → Prop) (w : World) (v : Value) : FOp → Prop
  | .create a x => ∃ p q, v = .func (.func 100) #[] #[adr p, adr q] ∧ Cells w p #[adr x] 124 ∧ Cells w q #[.string (txt a)] 9 ∧ a.length ≤ 32 ∧ ¬ Kp p ∧ ¬ Kp q
  | .rename a b x => ∃ p q r, v = .func (.func 177) #[] #[adr p, adr q, adr r] ∧ Cells w p #[.string (txt a)] 9 ∧ Cells w q #[adr x] 124 ∧ Cells w r #[.string (txt b)] 9 ∧ a.length ≤ 32 ∧ b.length ≤ 32 ∧ ¬ Kp p ∧ ¬ Kp q ∧ ¬ Kp r
  | .remove a => ∃ p, v = .func (.func 134) #[] #[adr p] ∧ Cells w p #[.string (txt a)] 9 ∧ a.length ≤ 32 ∧ ¬ Kp p
/-- No cell of the type t lies in S. -/
def Free (w : World) (S : Nat → Prop) (t : TypeId) : Prop := ∀ k, S k → ∀ c, ¬ Cells w k c t
/-- .. but in blocks that are kept. -/
def FreeK (Kp : Nat → Prop) (w : World) (S : Nat → Prop) (t : TypeId) : Prop := ∀ k, S k → ¬ Kp k → ∀ c, ¬ Cells w k c t
theorem Free.k {Kp : Nat → Prop} {w : World} {S : Nat → Prop} {t : TypeId} (h : Free w S t) : FreeK Kp w S t := fun k hs _ c hc => h k hs c hc
theorem OpAt.ch {Kp S : Nat → Prop} {w w' : World} {v : Value} {o : FOp} (h : OpAt Kp w v o) (k : Ch S w w') (h1 : FreeK Kp w S 9) (h2 : FreeK Kp w S 124) : OpAt Kp w' v o := by
  cases o with
  | create a x => obtain ⟨p, q, e, a1, a2, a3, n1, n2⟩ := h; exact ⟨p, q, e, a1.ch k (fun hs => h2 _ hs n1 _ a1), a2.ch k (fun hs => h1 _ hs n2 _ a2), a3, n1, n2⟩
  | rename a b x => obtain ⟨p, q, r, e, a1, a2, a3, a4, a5, n1, n2, n3⟩ := h; exact ⟨p, q, r, e, a1.ch k (fun hs => h1 _ hs n1 _ a1), a2.ch k (fun hs => h2 _ hs n2 _ a2), a3.ch k (fun hs => h1 _ hs n3 _ a3), a4, a5, n1, n2, n3⟩
  | remove a => obtain ⟨p, e, a1, a2, n1⟩ := h; exact ⟨p, e, a1.ch k (fun hs => h1 _ hs n1 _ a1), a2, n1⟩
theorem zero_file (w : World) : (zeroValue 124).run Tryz.prog w = .ok (.pointer none) w := by kernel_rfl
theorem zero_dir (w : World) : (zeroValue 123).run Tryz.prog w = .ok (.pointer none) w := by kernel_rfl
def OpDone (mb : Nat) (l : List (Nm × Nat)) (W : World) (e : Ending) (w' : World) : Prop := e = .returned (.tuple #[]) ∧ MapAt w' mb l ∧ W.mapTurned w' mb
set_option maxHeartbeats 1000000 in
theorem op_create (a : Nm) (x p q : Nat) (w : World) (h1 : Cells w p #[adr x] 124) (h2 : Cells w q #[.string (txt a)] 9) (ha : a.length ≤ 32) (mb : Nat) (l : List (Nm × Nat)) (hm : MapAt w mb l) (hl : l.length ≤ 1000000) :
    Calls Tryz.prog 100 #[.map (some mb), adr p, adr q] w (OpDone mb (mset l a x) w) := by
  have c1 : w.cell? ⟨p, 0, none⟩ = some (.pointer (some ⟨x, 0, none⟩)) := h1.cell 0
  have c2 : w.cell? ⟨q, 0, none⟩ = some (.string (txt a)) := h2.cell 0
  have HM := Lib.hid hm
  clear h1 h2 hm
  unfold adr
  go_enter Tryz.func100, Tryz.ntmps100
  go_wp2_with (at_mapUpdate; go_loud (refine put_ptr _ rfl _ _ _ 143 rfl 124 Tryz.underlying143 mb l rfl HM.out (by unfold maxLen; omega) a (by unfold maxLen; omega) x rfl rfl ?_); intro w1 h1 h2; have H1 := Lib.hid h1; have H2 := Lib.hid h2; clear h1 h2)
  go_end0
  exact ⟨rfl, H1.out, H2.out⟩
set_option maxHeartbeats 1000000 in
theorem op_remove (a : Nm) (p : Nat) (w : World) (h1 : Cells w p #[.string (txt a)] 9) (ha : a.length ≤ 32) (mb : Nat) (l : List (Nm × Nat)) (hm : MapAt w mb l) (hl : l.length ≤ 1000000) :
    Calls Tryz.prog 134 #[.map (some mb), adr p] w (OpDone mb (mdel l a) w) := by
  have c1 : w.cell? ⟨p, 0, none⟩ = some (.string (txt a)) := h1.cell 0
  have HM := Lib.hid hm
  clear h1 hm
  unfold adr
  go_enter Tryz.func134, Tryz.ntmps134
  go_wp2_with (at_delete; go_loud (refine del_ptr _ rfl _ _ 143 rfl 124 Tryz.underlying143 mb l rfl HM.out a (by unfold maxLen; omega) rfl ?_); intro w1 h1 h2; have H1 := Lib.hid h1; have H2 := Lib.hid h2; clear h1 h2)
  go_end0
  exact ⟨rfl, H1.out, H2.out⟩
theorem Ch.of_turned {w w' : World} {b : Nat} (h : w.mapTurned w' b) : Ch (· = b) w w' := (Ch.refl _ w).turned h (.inl rfl)
theorem Free.map {w : World} {b : Nat} {l : List (Nm × Nat)} (h : MapAt w b l) (t : TypeId) : Free w (· = b) t := by
  rintro k rfl c hc
  exact h.ne hc rfl
set_option maxHeartbeats 1000000 in
theorem op_rename (a b : Nm) (x p q r : Nat) (w : World) (h1 : Cells w p #[.string (txt a)] 9) (h2 : Cells w q #[adr x] 124) (h3 : Cells w r #[.string (txt b)] 9) (ha : a.length ≤ 32) (hb : b.length ≤ 32) (mb : Nat) (l : List (Nm × Nat)) (hm : MapAt w mb l) (hl : l.length ≤ 1000000) :
    Calls Tryz.prog 177 #[.map (some mb), adr p, adr q, adr r] w (OpDone mb (mset (mdel l a) b x) w) := by
  have c1 : w.cell? ⟨p, 0, none⟩ = some (.string (txt a)) := h1.cell 0
  have HQ := Lib.hid (fun w1 (k : Ch (· = mb) w w1) => ((h2.ch k (fun e => hm.ne h2 e.symm)).cell 0 : w1.cell? ⟨q, 0, none⟩ = some (.pointer (some ⟨x, 0, none⟩))))
  have HR := Lib.hid (fun w1 (k : Ch (· = mb) w w1) => ((h3.ch k (fun e => hm.ne h3 e.symm)).cell 0 : w1.cell? ⟨r, 0, none⟩ = some (.string (txt b))))
  have HM := Lib.hid hm
  have hdl := mdel_length l a
  clear h1 h2 h3 hm
  unfold adr
  go_enter Tryz.func177, Tryz.ntmps177
  go_wp2_with (first
    | (at_delete; go_loud (refine del_ptr _ rfl _ _ 143 rfl 124 Tryz.underlying143 mb l rfl HM.out a (by unfold maxLen; omega) rfl ?_); intro w1 h1 h2; have H1 := Lib.hid h1; have H2 := Lib.hid h2; have d1 := HQ.out w1 (Ch.of_turned h2); have d2 := HR.out w1 (Ch.of_turned h2); clear h1 h2)
    | (at_mapUpdate; go_loud (refine put_ptr _ rfl _ _ _ 143 rfl 124 Tryz.underlying143 mb (mdel l a) rfl H1.out (by unfold maxLen; omega) b (by unfold maxLen; omega) x rfl rfl ?_); intro w2 h1 h2; have H3 := Lib.hid h1; have H4 := Lib.hid h2; clear h1 h2))
  go_end0
  exact ⟨rfl, H3.out, H2.out.trans H4.out⟩
/-- Whoever calls an operation needs this alone. -/
theorem op_run {Kp : Nat → Prop} {w : World} {v : Value} {o : FOp} (h : OpAt Kp w v o) : ∃ g lb, v = .func (.func g) #[] lb ∧ (∀ args W, (callFunc g args).run Tryz.prog W = .ok (.enter g args) W) ∧
    ∀ (W : World), OpAt Kp W v o → ∀ (mb : Nat) (l : List (Nm × Nat)), MapAt W mb l → l.length ≤ 1000000 → Calls Tryz.prog g (#[.map (some mb)] ++ lb) W (OpDone mb (o.on l) W) := by
  cases o with
  | create a x =>
    obtain ⟨p, q, rfl, _⟩ := h
    refine ⟨_, _, rfl, enters_of Tryz.func100 (by kernel_rfl) rfl, ?_⟩
    rintro W ⟨p', q', e, h1, h2, h3, _⟩ mb l hm hl
    simp [adr] at e
    obtain ⟨rfl, rfl⟩ := e
    exact op_create a x p q W h1 h2 h3 mb l hm hl
  | rename a b x =>
    obtain ⟨p, q, r, rfl, _⟩ := h
    refine ⟨_, _, rfl, enters_of Tryz.func177 (by kernel_rfl) rfl, ?_⟩
    rintro W ⟨p', q', r', e, h1, h2, h3, h4, h5, _⟩ mb l hm hl
    simp [adr] at e
    obtain ⟨rfl, rfl, rfl⟩ := e
    exact op_rename a b x p q r W h1 h2 h3 h4 h5 mb l hm hl
  | remove a =>
    obtain ⟨p, rfl, _⟩ := h
    refine ⟨_, _, rfl, enters_of Tryz.func134 (by kernel_rfl) rfl, ?_⟩
    rintro W ⟨p', e, h1, h2, _⟩ mb l hm hl
    simp [adr] at e
    subst e
    exact op_remove a p W h1 h2 mb l hm hl
end Go.Proofs.YtkcnmajjfljilaaGreatDoor
