/- Several texts in one: FsDir, FsSettle. -/
import Derived.Test.YtkcnmajjfljilaaGreatDoorFsOps
/- simfs: a directory: an operation is done; pending ones last, or are undone. -/
namespace Go.Proofs.YtkcnmajjfljilaaGreatDoor
open Go.ChangeShapes Go.WideShapes Go.ChangeAt Go.RowKit Go.ChangeMaps Go.MapKept
set_option linter.unusedVariables false

def dirCells (bb nb : Nat) (v : Value) : Array Value := #[.map (some bb), .map (some nb), v]
def DirAt (w : World) (d bb nb : Nat) (v : Value) : Prop := Cells w d (dirCells bb nb v) 146
/-- The functions vs do the operations. -/
def OpsAt (Kp : Nat → Prop) (w : World) : List Value → List FOp → Prop
  | [], [] => True
  | v :: vs, o :: os => OpAt Kp w v o ∧ OpsAt Kp w vs os
  | _, _ => False
theorem OpsAt.ch {Kp S : Nat → Prop} {w w' : World} (k : Ch S w w') (h1 : FreeK Kp w S 9) (h2 : FreeK Kp w S 124) : ∀ {vs : List Value} {os : List FOp}, OpsAt Kp w vs os → OpsAt Kp w' vs os
  | [], [], _ => trivial
  | _ :: _, _ :: _, ⟨a, b⟩ => ⟨a.ch k h1 h2, OpsAt.ch k h1 h2 b⟩
  | [], _ :: _, h => h
  | _ :: _, [], h => h
theorem OpsAt.add {Kp : Nat → Prop} {w : World} {v : Value} {o : FOp} (k : OpAt Kp w v o) : ∀ {vs : List Value} {os : List FOp}, OpsAt Kp w vs os → OpsAt Kp w (vs ++ [v]) (os ++ [o])
  | [], [], _ => ⟨k, trivial⟩
  | _ :: _, _ :: _, ⟨a, b⟩ => ⟨a, OpsAt.add k b⟩
  | [], _ :: _, h => h.elim
  | _ :: _, [], h => h.elim
theorem OpsAt.get {Kp : Nat → Prop} {w : World} : ∀ {vs : List Value} {os : List FOp}, OpsAt Kp w vs os → ∀ (j : Nat) (h : j < os.length), ∃ v, vs[j]? = some v ∧ OpAt Kp w v os[j]
  | [], [], _, j, h => by simp at h
  | v :: vs, o :: os, ⟨a, b⟩, 0, _ => ⟨v, rfl, a⟩
  | v :: vs, o :: os, ⟨a, b⟩, j + 1, h => OpsAt.get b j (by simpa using h)
  | [], _ :: _, h, _, _ => h.elim
  | _ :: _, [], h, _, _ => h.elim
/-- The pending operations lie in a row of the call's own. -/
def PendAt (Kp : Nat → Prop) (B : Nat) (w : World) (v : Value) (os : List FOp) : Prop := ∃ vs, w.ownsRow B 204 1 v os.length vs ∧ OpsAt Kp w vs os
theorem own_ch {S : Nat → Prop} {w w' : World} {B n size : Nat} {t : TypeId} {v : Value} {xs : List Value} (h : w.ownsRow B t size v n xs) (k : Ch S w w') (hs : ∀ b, v.ownBlock = some b → ¬ S b) : w'.ownsRow B t size v n xs := by
  refine ⟨h.1, ?_⟩
  rcases h.2 with ⟨rfl, h0⟩ | ⟨g, cap, cur, rfl, hg, hh, rest⟩
  · exact .inl ⟨rfl, h0⟩
  · exact .inr ⟨g, cap, cur, rfl, hg, (k.block g (Array.getElem?_eq_some_iff.1 hh).1 (hs g rfl)).trans hh, rest⟩
/-- The row's block has cells of its type. -/
theorem own_cells {w : World} {B n size : Nat} {t : TypeId} {v : Value} {xs : List Value} (h : w.ownsRow B t size v n xs) {b : Nat} (hb : v.ownBlock = some b) : ∃ c, Cells w b c t ∧ B ≤ b := by
  rcases h.2 with ⟨rfl, h0⟩ | ⟨g, cap, cur, rfl, hg, hh, rest⟩
  · simp [Value.ownBlock] at hb
  · simp [Value.ownBlock] at hb; subst hb; exact ⟨cur, hh, hg⟩
theorem Free.cells {w : World} {b : Nat} {c : Array Value} {s t : TypeId} (h : Cells w b c s) (ht : s ≠ t) : Free w (· = b) t := by
  rintro k rfl d hd
  exact h.ne hd ht rfl
theorem Free.row {w : World} {B n size : Nat} {s t : TypeId} {v : Value} {xs : List Value} (h : w.ownsRow B s size v n xs) (ht : s ≠ t) : Free w (fun k => v.ownBlock = some k) t := by
  intro k hk d hd
  obtain ⟨c, hc, _⟩ := own_cells h hk
  exact hc.ne hd ht rfl
theorem Free.or {w : World} {S T : Nat → Prop} {t : TypeId} (h : Free w S t) (k : Free w T t) : Free w (fun i => S i ∨ T i) t := by
  rintro i (hi | hi) c hc
  · exact h i hi c hc
  · exact k i hi c hc
theorem infoOp : (Tryz.prog.info? 204).map (fun i => (i.zero, i.size, i.bytes)) = some (some .nilFunc, 1, 8) := by kernel_rfl

theorem Cells.grown {w w' : World} {row : Option Nat} {b : Nat} {c : Array Value} {t : TypeId} (h : Cells w b c t) (hg : w.grownBy w' row) (hne : some b ≠ row) : Cells w' b c t := (hg.block b h.lt hne).trans h
theorem MapAt.grown {w w' : World} {row : Option Nat} {b : Nat} {l : List (Nm × Nat)} (h : MapAt w b l) (hg : w.grownBy w' row) (hne : some b ≠ row) : MapAt w' b l := World.ownsMap.kept h hg hne
/-- What a done operation leaves. -/
structure DoDone (Kp : Nat → Prop) (B d bb nb : Nat) (v : Value) (l : List (Nm × Nat)) (os : List FOp) (w : World) (w' : World) (v' : Value) : Prop where
  dir : DirAt w' d bb nb v'
  map : MapAt w' nb l
  pend : PendAt Kp B w' v' os
  ch : Ch (fun k => k = d ∨ k = nb ∨ v.ownBlock = some k) w w'
  at_ : ∀ k, v'.ownBlock = some k → v.ownBlock = some k ∨ w.heap.size ≤ k
set_option maxHeartbeats 4000000 in
theorem do_any {Kp : Nat → Prop} (B d bb nb : Nat) (v fv : Value) (l : List (Nm × Nat)) (os : List FOp) (o : FOp) (w : World) (hB : B ≤ w.heap.size) (hd : DirAt w d bb nb v) (hm : MapAt w nb l) (hp : PendAt Kp B w v os) (ho : OpAt Kp w fv o) (hl : l.length ≤ 1000000) (hos : os.length ≤ 1000000) :
    Calls Tryz.prog 99 #[.pointer (some ⟨d, 0, none⟩), fv] w fun e w' => e = .returned (.tuple #[]) ∧ ∃ v', DoDone Kp B d bb nb v (o.on l) (os ++ [o]) w w' v' := by
  obtain ⟨vs, hrow, hops⟩ := hp
  obtain ⟨g, lb, rfl, hen, hrun⟩ := op_run ho
  have c1 : w.cell? ⟨d, 1, none⟩ = some (.map (some nb)) := hd.cell 1
  have HC := Lib.hid (hrun w ho nb l hm hl)
  obtain ⟨i0, hi, hz0, hz1, hz2⟩ := info_parts infoOp
  have HI := Lib.hid hi
  have HZ0 := Lib.hid hz0
  have HZ1 := Lib.hid hz1
  have HZ2 := Lib.hid hz2
  have hne : nb ≠ d := hm.ne hd
  have hne2 : some d ≠ v.ownBlock := fun e => by obtain ⟨c, hc, _⟩ := own_cells hrow e.symm; exact hd.ne hc (by decide) rfl
  have hne3 : some nb ≠ v.ownBlock := fun e => by obtain ⟨c, hc, _⟩ := own_cells hrow e.symm; exact hm.ne hc rfl
  have HD := Lib.hid (fun w1 (k : Ch (· = nb) w w1) => (hd.ch k (fun e => hne e.symm) : DirAt w1 d bb nb v))
  have HR := Lib.hid (fun w1 (k : Ch (· = nb) w w1) => own_ch hrow k (fun b hb e => by obtain ⟨c, hc, _⟩ := own_cells hrow hb; exact hm.ne hc e.symm))
  have hfree : ∀ t, 146 ≠ t → 204 ≠ t → Free w (fun k => k = d ∨ k = nb ∨ v.ownBlock = some k) t := fun t h1 h2 => (Free.cells hd h1).or ((Free.map hm t).or (Free.row hrow h2))
  have HO := Lib.hid (fun w1 (k : Ch (fun k => k = d ∨ k = nb ∨ v.ownBlock = some k) w w1) => OpsAt.ch k (hfree _ (by decide) (by decide)).k (hfree _ (by decide) (by decide)).k (OpsAt.add ho hops))
  clear hi hz0 hz1 hz2 hrun hm hd hrow hops ho hfree
  go_enter Tryz.func99, Tryz.ntmps99
  go_wp2_with (first
    | (go_at_fn g; refine HC.out.mono ?_; rintro e w1 ⟨rfl, h1, h2⟩; have HM1 := Lib.hid h1; have HT1 := Lib.hid (Ch.of_turned h2); clear h1 h2; have e2 : w1.cell? ⟨d, 2, none⟩ = some v := (HD.out w1 HT1.out).cell 2; have f2 := (HD.out w1 HT1.out).frozen 2; clear c1)
    | (at_builtin; go_loud (refine wpList_append_own_at _ rfl _ _ 144 rfl B 204 i0 _ 1 8 Tryz.underlying144 HI.out HZ0.out HZ1.out HZ2.out rfl (by decide) v os.length vs rfl ((HR.out w1 HT1.out).alloc _) ⟨w1.heap.size, 0, none⟩ 1 1 [.func (.func g) #[] lb] rfl rfl (new_cells w1 _ _) (by simp [Value.oneCell']) (by unfold maxLen; omega) (by omega) (by have := HT1.out.size; simp; omega) ?_); intro v2 w2 hown hg _ hat; obtain ⟨A2, c2, rfl⟩ := own_slice hown; have HW := Lib.hid hown; have HG := Lib.hid hg; have HA := Lib.hid hat; have HD2 := Lib.hid (((HD.out w1 HT1.out).alloc _).grown hg hne2); have HM2 := Lib.hid ((MapAt.ch HM1.out ((Ch.refl (fun _ => False) w1).alloc _) (fun h => h)).grown hg hne3); have g2 : w2.frozen? ⟨d, 2, none⟩ = false := HD2.out.frozen 2; have d2 : w2.cell? ⟨d, 2, none⟩ = some v := HD2.out.cell 2; clear hown hg hat e2 f2))
  go_end0
  have hbig : Ch (fun k => k = d ∨ k = nb ∨ v.ownBlock = some k) w (w2.setCell ⟨d, 2, none⟩ (.slice A2 (os.length + 1) c2)) :=
    (((HT1.out.mono fun k _ hk => .inr (.inl hk)).alloc _).grown HG.out fun k hk => .inl (.inr (.inr hk))).set (p := ⟨d, 2, none⟩) (.inl (.inl rfl)) _
  have hlast : Ch (· = d) w2 (w2.setCell ⟨d, 2, none⟩ (.slice A2 (os.length + 1) c2)) := (Ch.refl (· = d) w2).set (p := ⟨d, 2, none⟩) (.inl rfl) _
  refine ⟨rfl, _, HD2.out.set 2 _, HM2.out.ch hlast hne, ⟨_, ?_, HO.out _ hbig⟩, hbig, fun k hk => ?_⟩
  · rw [List.length_append]
    refine own_ch HW.out hlast fun b hb e => ?_
    obtain ⟨c, hc, _⟩ := own_cells HW.out hb
    exact HD2.out.ne hc (by decide) e.symm
  · rcases HA.out with h | h
    · exact .inl (h ▸ hk)
    · rw [h] at hk
      have := HT1.out.size
      simp at hk
      omega
end Go.Proofs.YtkcnmajjfljilaaGreatDoor

/- simfs: settle. -/
namespace Go.Proofs.YtkcnmajjfljilaaGreatDoor
open Go.ChangeShapes Go.WideShapes Go.ChangeAt Go.RowKit Go.ChangeMaps Go.MapKept
set_option linter.unusedVariables false

/-- All of them, one behind the other. -/
def replay (os : List FOp) (l : List (Nm × Nat)) : List (Nm × Nat) := os.foldl (fun l o => o.on l) l
theorem replay_snoc (os : List FOp) (o : FOp) (l : List (Nm × Nat)) : replay (os ++ [o]) l = o.on (replay os l) := by simp [replay]
theorem replay_length (os : List FOp) (l : List (Nm × Nat)) : (replay os l).length ≤ l.length + os.length := by
  induction os generalizing l with
  | nil => simp [replay]
  | cons o os ih =>
    have := ih (o.on l)
    have := o.on_length l
    simp only [replay, List.foldl_cons, List.length_cons] at *
    omega
theorem take_snoc {α : Type} (l : List α) (k : Nat) (h : k < l.length) : l.take (k + 1) = l.take k ++ [l[k]] := by
  rw [List.take_add_one, List.getElem?_eq_getElem h]; rfl

/-- What settling leaves. -/
structure Settled (d bb nb nb' : Nat) (bl nl : List (Nm × Nat)) (w w' : World) : Prop where
  dir : DirAt w' d bb nb' (.slice none 0 0)
  base : MapAt w' bb bl
  now : MapAt w' nb' nl
  ch : Ch (fun k => k = d ∨ k = bb) w w'
  at_ : nb' = nb ∨ w.heap.size ≤ nb'
theorem settle_nil (d bb nb : Nat) (bl nl : List (Nm × Nat)) (w : World) (hd : DirAt w d bb nb (.slice none 0 0)) (hb : MapAt w bb bl) (hn : MapAt w nb nl) :
    Calls Tryz.prog 102 #[.pointer (some ⟨d, 0, none⟩), .int .i64 0] w fun e w' => e = .returned (.tuple #[]) ∧ Settled d bb nb nb bl nl w w' := by
  have c2 : w.cell? ⟨d, 2, none⟩ = some (.slice none 0 0) := hd.cell 2
  have f2 := hd.frozen 2
  have HD := Lib.hid hd
  have HB := Lib.hid hb
  have HN := Lib.hid hn
  clear hd hb hn
  go_enter Tryz.func102, Tryz.ntmps102
  go_wp2
  go_loopw [13] (fun iv wr => iv = .int .i64 0 ∧ wr = w) (fun _ _ => 0)
  case atStart => exact ⟨rfl, rfl⟩
  case round =>
    obtain ⟨rfl, rfl⟩ := hrel
    go_wp2
    go_end0
    have h : Ch (· = d) wr (wr.setCell ⟨d, 2, none⟩ (.slice none 0 0)) := (Ch.refl (· = d) wr).set (p := ⟨d, 2, none⟩) (.inl rfl) _
    exact ⟨rfl, HD.out.set 2 _, HB.out.ch h (HB.out.ne HD.out), HN.out.ch h (HN.out.ne HD.out), h.mono fun k _ e => .inl e, .inl rfl⟩

/-- In the loop: so many are done. -/
structure Going (bb : Nat) (l : List (Nm × Nat)) (w wr : World) : Prop where
  map : MapAt wr bb l
  ch : Ch (· = bb) w wr
set_option maxHeartbeats 4000000 in
theorem settle_row {Kp : Nat → Prop} (d bb nb g cap k : Nat) (os : List FOp) (bl nl : List (Nm × Nat)) (w : World) (hd : DirAt w d bb nb (.slice (some ⟨g, 0, none⟩) os.length cap)) (hb : MapAt w bb bl) (hn : MapAt w nb nl) (hne : bb ≠ nb)
    (hrow : ∀ j (h : j < os.length), ∃ fv, w.cell? ⟨g, j, none⟩ = some fv ∧ OpAt Kp w fv os[j]) (hgb : g ≠ bb) (hcap : os.length ≤ cap) (hk : k ≤ os.length) (hlen : bl.length + os.length ≤ 1000000) (hcm : cap ≤ maxLen) (hlast : k = os.length → replay os bl = nl) :
    Calls Tryz.prog 102 #[.pointer (some ⟨d, 0, none⟩), .int .i64 (k : Int)] w fun e w' => e = .returned (.tuple #[]) ∧ ∃ nb', Settled d bb nb nb' (replay (os.take k) bl) (replay (os.take k) bl) w w' := by
  have c2 : w.cell? ⟨d, 2, none⟩ = some (.slice (some ⟨g, 0, none⟩) os.length cap) := hd.cell 2
  have hbd : bb ≠ d := hb.ne hd
  have hkc : k ≤ cap := by omega
  have HDC := Lib.hid (fun wr (h : Ch (· = bb) w wr) => (hd.ch h (fun e => hbd e.symm) : DirAt wr d bb nb (.slice (some ⟨g, 0, none⟩) os.length cap)))
  have HN := Lib.hid (fun wr (h : Ch (· = bb) w wr) => hn.ch h (fun e => hne e.symm))
  have HR := Lib.hid (fun wr (h : Ch (· = bb) w wr) j (hj : j < os.length) => (by
    obtain ⟨fv, h1, h2⟩ := hrow j hj
    have hlt : g < w.heap.size := World.block_lt_of_cell? w _ h1
    exact ⟨fv, (World.cell?_of_block (w := w) (a := ⟨g, j, none⟩) (h.block g hlt hgb)).trans h1, h2.ch h (Free.map hb _).k (Free.map hb _).k⟩ : ∃ fv, wr.cell? ⟨g, j, none⟩ = some fv ∧ OpAt Kp wr fv os[j]))
  have HB := Lib.hid (show Going bb (replay (os.take 0) bl) w w from ⟨hb, Ch.refl _ _⟩)
  have HL := Lib.hid hlast
  clear hrow hd hb hn hlast
  obtain ⟨n, hn⟩ : ∃ n, os.length = n := ⟨_, rfl⟩
  have HOL := Lib.hid hn
  rw [hn] at c2 hk hcap hlen
  clear hn
  go_enter Tryz.func102, Tryz.ntmps102
  go_wp2
  go_loopw [13] (fun iv wr => ∃ j : Nat, j ≤ k ∧ iv = .int .i64 (j : Int) ∧ Hid (Going bb (replay (os.take j) bl) w wr)) (fun iv _ => k - (intOf iv).toNat)
  case atStart => exact ⟨0, Nat.zero_le _, rfl, HB⟩
  case round =>
    obtain ⟨j, hj, rfl, HG⟩ := hrel
    have d0 : wr.cell? ⟨d, 0, none⟩ = some (.map (some bb)) := (HDC.out wr HG.out.ch).cell 0
    have d2 : wr.cell? ⟨d, 2, none⟩ = some (.slice (some ⟨g, 0, none⟩) n cap) := by have := (HDC.out wr HG.out.ch).cell 2; rw [← HOL.out]; exact this
    by_cases hlt : j < k
    · have hjl : j < os.length := by rw [HOL.out]; omega
      obtain ⟨fv, hcell, hop⟩ := HR.out wr HG.out.ch j hjl
      obtain ⟨q, lb, rfl, hen, hrun⟩ := op_run hop
      have HC := Lib.hid (hrun wr hop bb _ HG.out.map (by have := replay_length (os.take j) bl; rw [List.length_take] at this; omega))
      have HS := Lib.hid (show replay (os.take (j + 1)) bl = os[j].on (replay (os.take j) bl) by rw [take_snoc os j hjl, replay_snoc])
      clear hrun hop
      go_wp2_with (go_at_fn q; refine HC.out.mono ?_; rintro e w1 ⟨rfl, h1, h2⟩; have H1 := Lib.hid (show Going bb (replay (os.take (j + 1)) bl) w w1 from ⟨by rw [HS.out]; exact h1, HG.out.ch.turned h2 (.inl rfl)⟩); clear h1 h2)
      go_roundw
      case rel => exact ⟨j + 1, by omega, by go_num, H1⟩
      case measure => simp [intOf]; omega
    · obtain rfl : j = k := by omega
      have f2 := (HDC.out wr HG.out.ch).frozen 2
      by_cases hkn : j = n
      · have hin : decide ((j : Int) < (n : Int)) = false := decide_eq_false (by omega)
        go_wp2
        go_end0
        have h : Ch (· = d) wr (wr.setCell ⟨d, 2, none⟩ (.slice none 0 0)) := (Ch.refl (· = d) wr).set (p := ⟨d, 2, none⟩) (.inl rfl) _
        refine ⟨rfl, nb, (HDC.out wr HG.out.ch).set 2 _, HG.out.map.ch h hbd, ?_, (HG.out.ch.mono fun k _ e => .inr e).then_ h fun i _ e => .inl e, .inl rfl⟩
        rw [show os.take j = os by rw [List.take_of_length_le (by rw [HOL.out]; omega)], HL.out (by rw [HOL.out]; exact hkn)]
        exact (HN.out wr HG.out.ch).ch h ((HN.out wr HG.out.ch).ne (HDC.out wr HG.out.ch))
      · have hin : decide ((j : Int) < (n : Int)) = true := decide_eq_true (by omega)
        have f1 := (HDC.out wr HG.out.ch).frozen 1
        have d1 : wr.cell? ⟨d, 1, none⟩ = some (.map (some nb)) := (HDC.out wr HG.out.ch).cell 1
        have HCL := Lib.hid (AnyW.maps_Clone_owns Tryz.cloneMap 9 ptrElem bb _ _ wr HG.out.map)
        go_wp2_with (go_at_call 152; refine HCL.out.mono ?_; rintro e w1 ⟨rfl, h1, h2, h3⟩; have H1 := Lib.hid h1; have H2 := Lib.hid h2; have H3 := Lib.hid h3; have H4 := Lib.hid ((HDC.out wr HG.out.ch).ch (Ch.below (Ch.refl (fun _ => False) wr) h3 (fun k hk hk' => by omega)) (fun h => h)); have g1 := H4.out.frozen 1; have g2 := H4.out.frozen 2; have x1 : w1.cell? ⟨d, 1, none⟩ = some (.map (some nb)) := H4.out.cell 1; have x2 : w1.cell? ⟨d, 2, none⟩ = some (.slice (some ⟨g, 0, none⟩) os.length cap) := H4.out.cell 2; clear h1 h2 h3 d0 d1 d2 f1 f2)
        go_end0
        have hs : Ch (· = d) w1 ((w1.setCell ⟨d, 1, none⟩ (.map (some wr.heap.size))).setCell ⟨d, 2, none⟩ (.slice none 0 0)) := ((Ch.refl (· = d) w1).set (p := ⟨d, 1, none⟩) (.inl rfl) _).set (p := ⟨d, 2, none⟩) (.inl rfl) _
        have b1 := own_tight H1.out
        have b2 := own_tight H2.out
        refine ⟨rfl, wr.heap.size, (H4.out.set 1 _).set 2 _, b2.ch hs (b2.ne H4.out), b1.ch hs (b1.ne H4.out), ?_, .inr HG.out.ch.size⟩
        exact ((HG.out.ch.mono fun k _ e => .inr e).below H3.out fun k h1 h2 => by have := HG.out.ch.size; omega).then_ hs fun i _ e => .inl e
end Go.Proofs.YtkcnmajjfljilaaGreatDoor
