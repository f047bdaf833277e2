/- simfs: a directory: an operation is done; pending ones last, or are undone. -/
import Derived.Test.YtlmkhieojgpgcaaFsOps
namespace Go.Proofs.Ytlmkhieojgpgcaa
open Go.ChangeShapes Go.WideShapes Go.ChangeAt Go.RowKit Go.ChangeMaps Go.MapKept
set_option linter.unusedVariables false

def dirCells (bb nb : Nat) (v : Value) : Array Value := #[.map (some bb), .map (some nb), v]
def DirAt (w : World) (d bb nb : Nat) (v : Value) : Prop := Cells w d (dirCells bb nb v) 65
/-- The functions vs do the operations. -/
def OpsAt (Kp : Nat → Prop) (w : World) : List Value → List FOp → Prop
  | [], [] => True
  | v :: vs, o :: os => OpAt Kp w v o ∧ OpsAt Kp w vs os
  | _, _ => False
theorem OpsAt.ch {Kp S : Nat → Prop} {w w' : World} (k : Ch S w w') (h1 : FreeK Kp w S 9) (h2 : FreeK Kp w S 60) : ∀ {vs : List Value} {os : List FOp}, OpsAt Kp w vs os → OpsAt Kp w' vs os
  | [], [], _ => trivial
  | _ :: _, _ :: _, ⟨a, b⟩ => ⟨a.ch k h1 h2, OpsAt.ch k h1 h2 b⟩
  | [], _ :: _, h => h
  | _ :: _, [], h => h
theorem OpsAt.add {Kp : Nat → Prop} {w : World} {v : Value} {o : FOp} (k : OpAt Kp w v o) : ∀ {vs : List Value} {os : List FOp}, OpsAt Kp w vs os → OpsAt Kp w (vs ++ [v]) (os ++ [o])
  | [], [], _ => ⟨k, trivial⟩
  | _ :: _, _ :: _, ⟨a, b⟩ => ⟨a, OpsAt.add k b⟩
  | [], _ :: _, h => h.elim
  | _ :: _, [], h => h.elim
theorem OpsAt.get {Kp : Nat → Prop} {w : World} : ∀ {vs : List Value} {os : List FOp}, OpsAt Kp w vs os → ∀ (j : Nat) (h : j < os.length), ∃ v, vs[j]? = some v ∧ OpAt Kp w v os[j]
  | [], [], _, j, h => by simp at h
  | v :: vs, o :: os, ⟨a, b⟩, 0, _ => ⟨v, rfl, a⟩
  | v :: vs, o :: os, ⟨a, b⟩, j + 1, h => OpsAt.get b j (by simpa using h)
  | [], _ :: _, h, _, _ => h.elim
  | _ :: _, [], h, _, _ => h.elim
/-- The pending operations lie in a row of the call's own. -/
def PendAt (Kp : Nat → Prop) (B : Nat) (w : World) (v : Value) (os : List FOp) : Prop := ∃ vs, w.ownsRow B 78 1 v os.length vs ∧ OpsAt Kp w vs os
theorem own_ch {S : Nat → Prop} {w w' : World} {B n size : Nat} {t : TypeId} {v : Value} {xs : List Value} (h : w.ownsRow B t size v n xs) (k : Ch S w w') (hs : ∀ b, v.ownBlock = some b → ¬ S b) : w'.ownsRow B t size v n xs := by
  refine ⟨h.1, ?_⟩
  rcases h.2 with ⟨rfl, h0⟩ | ⟨g, cap, cur, rfl, hg, hh, rest⟩
  · exact .inl ⟨rfl, h0⟩
  · exact .inr ⟨g, cap, cur, rfl, hg, (k.block g (Array.getElem?_eq_some_iff.1 hh).1 (hs g rfl)).trans hh, rest⟩
/-- The row's block has cells of its type. -/
theorem own_cells {w : World} {B n size : Nat} {t : TypeId} {v : Value} {xs : List Value} (h : w.ownsRow B t size v n xs) {b : Nat} (hb : v.ownBlock = some b) : ∃ c, Cells w b c t ∧ B ≤ b := by
  rcases h.2 with ⟨rfl, h0⟩ | ⟨g, cap, cur, rfl, hg, hh, rest⟩
  · simp [Value.ownBlock] at hb
  · simp [Value.ownBlock] at hb; subst hb; exact ⟨cur, hh, hg⟩
theorem Free.cells {w : World} {b : Nat} {c : Array Value} {s t : TypeId} (h : Cells w b c s) (ht : s ≠ t) : Free w (· = b) t := by
  rintro k rfl d hd
  exact h.ne hd ht rfl
theorem Free.row {w : World} {B n size : Nat} {s t : TypeId} {v : Value} {xs : List Value} (h : w.ownsRow B s size v n xs) (ht : s ≠ t) : Free w (fun k => v.ownBlock = some k) t := by
  intro k hk d hd
  obtain ⟨c, hc, _⟩ := own_cells h hk
  exact hc.ne hd ht rfl
theorem Free.or {w : World} {S T : Nat → Prop} {t : TypeId} (h : Free w S t) (k : Free w T t) : Free w (fun i => S i ∨ T i) t := by
  rintro i (hi | hi) c hc
  · exact h i hi c hc
  · exact k i hi c hc
theorem infoOp : (Try.prog.info? 78).map (fun i => (i.zero, i.size, i.bytes)) = some (some .nilFunc, 1, 8) := by kernel_rfl

theorem Cells.grown {w w' : World} {row : Option Nat} {b : Nat} {c : Array Value} {t : TypeId} (h : Cells w b c t) (hg : w.grownBy w' row) (hne : some b ≠ row) : Cells w' b c t := (hg.block b h.lt hne).trans h
theorem MapAt.grown {w w' : World} {row : Option Nat} {b : Nat} {l : List (Nm × Nat)} (h : MapAt w b l) (hg : w.grownBy w' row) (hne : some b ≠ row) : MapAt w' b l := World.ownsMap.kept h hg hne
/-- What a done operation leaves. -/
structure DoDone (Kp : Nat → Prop) (B d bb nb : Nat) (v : Value) (l : List (Nm × Nat)) (os : List FOp) (w : World) (w' : World) (v' : Value) : Prop where
  dir : DirAt w' d bb nb v'
  map : MapAt w' nb l
  pend : PendAt Kp B w' v' os
  ch : Ch (fun k => k = d ∨ k = nb ∨ v.ownBlock = some k) w w'
  at_ : ∀ k, v'.ownBlock = some k → v.ownBlock = some k ∨ w.heap.size ≤ k
set_option maxHeartbeats 4000000 in
theorem do_any {Kp : Nat → Prop} (B d bb nb : Nat) (v fv : Value) (l : List (Nm × Nat)) (os : List FOp) (o : FOp) (w : World) (hB : B ≤ w.heap.size) (hd : DirAt w d bb nb v) (hm : MapAt w nb l) (hp : PendAt Kp B w v os) (ho : OpAt Kp w fv o) (hl : l.length ≤ 1000000) (hos : os.length ≤ 1000000) :
    Calls Try.prog 34 #[.pointer (some ⟨d, 0, none⟩), fv] w fun e w' => e = .returned (.tuple #[]) ∧ ∃ v', DoDone Kp B d bb nb v (o.on l) (os ++ [o]) w w' v' := by
  obtain ⟨vs, hrow, hops⟩ := hp
  obtain ⟨g, lb, rfl, hen, hrun⟩ := op_run ho
  have c1 : w.cell? ⟨d, 1, none⟩ = some (.map (some nb)) := hd.cell 1
  have HC := Lib.hid (hrun w ho nb l hm hl)
  obtain ⟨i0, hi, hz0, hz1, hz2⟩ := info_parts infoOp
  have HI := Lib.hid hi
  have HZ0 := Lib.hid hz0
  have HZ1 := Lib.hid hz1
  have HZ2 := Lib.hid hz2
  have hne : nb ≠ d := hm.ne hd
  have hne2 : some d ≠ v.ownBlock := fun e => by obtain ⟨c, hc, _⟩ := own_cells hrow e.symm; exact hd.ne hc (by decide) rfl
  have hne3 : some nb ≠ v.ownBlock := fun e => by obtain ⟨c, hc, _⟩ := own_cells hrow e.symm; exact hm.ne hc rfl
  have HD := Lib.hid (fun w1 (k : Ch (· = nb) w w1) => (hd.ch k (fun e => hne e.symm) : DirAt w1 d bb nb v))
  have HR := Lib.hid (fun w1 (k : Ch (· = nb) w w1) => own_ch hrow k (fun b hb e => by obtain ⟨c, hc, _⟩ := own_cells hrow hb; exact hm.ne hc e.symm))
  have hfree : ∀ t, 65 ≠ t → 78 ≠ t → Free w (fun k => k = d ∨ k = nb ∨ v.ownBlock = some k) t := fun t h1 h2 => (Free.cells hd h1).or ((Free.map hm t).or (Free.row hrow h2))
  have HO := Lib.hid (fun w1 (k : Ch (fun k => k = d ∨ k = nb ∨ v.ownBlock = some k) w w1) => OpsAt.ch k (hfree _ (by decide) (by decide)).k (hfree _ (by decide) (by decide)).k (OpsAt.add ho hops))
  clear hi hz0 hz1 hz2 hrun hm hd hrow hops ho hfree
  go_enter Try.func34, Try.ntmps34
  go_wp2_with (first
    | (go_at_fn g; refine HC.out.mono ?_; rintro e w1 ⟨rfl, h1, h2⟩; have HM1 := Lib.hid h1; have HT1 := Lib.hid (Ch.of_turned h2); clear h1 h2; have e2 : w1.cell? ⟨d, 2, none⟩ = some v := (HD.out w1 HT1.out).cell 2; have f2 := (HD.out w1 HT1.out).frozen 2; clear c1)
    | (at_builtin; go_loud (refine wpList_append_own_at _ rfl _ _ 63 rfl B 78 i0 _ 1 8 Try.underlying63 HI.out HZ0.out HZ1.out HZ2.out rfl (by decide) v os.length vs rfl ((HR.out w1 HT1.out).alloc _) ⟨w1.heap.size, 0, none⟩ 1 1 [.func (.func g) #[] lb] rfl rfl (new_cells w1 _ _) (by simp [Value.oneCell']) (by unfold maxLen; omega) (by omega) (by have := HT1.out.size; simp; omega) ?_); intro v2 w2 hown hg _ hat; obtain ⟨A2, c2, rfl⟩ := own_slice hown; have HW := Lib.hid hown; have HG := Lib.hid hg; have HA := Lib.hid hat; have HD2 := Lib.hid (((HD.out w1 HT1.out).alloc _).grown hg hne2); have HM2 := Lib.hid ((MapAt.ch HM1.out ((Ch.refl (fun _ => False) w1).alloc _) (fun h => h)).grown hg hne3); have g2 : w2.frozen? ⟨d, 2, none⟩ = false := HD2.out.frozen 2; have d2 : w2.cell? ⟨d, 2, none⟩ = some v := HD2.out.cell 2; clear hown hg hat e2 f2))
  go_end0
  have hbig : Ch (fun k => k = d ∨ k = nb ∨ v.ownBlock = some k) w (w2.setCell ⟨d, 2, none⟩ (.slice A2 (os.length + 1) c2)) :=
    (((HT1.out.mono fun k _ hk => .inr (.inl hk)).alloc _).grown HG.out fun k hk => .inl (.inr (.inr hk))).set (p := ⟨d, 2, none⟩) (.inl (.inl rfl)) _
  have hlast : Ch (· = d) w2 (w2.setCell ⟨d, 2, none⟩ (.slice A2 (os.length + 1) c2)) := (Ch.refl (· = d) w2).set (p := ⟨d, 2, none⟩) (.inl rfl) _
  refine ⟨rfl, _, HD2.out.set 2 _, HM2.out.ch hlast hne, ⟨_, ?_, HO.out _ hbig⟩, hbig, fun k hk => ?_⟩
  · rw [List.length_append]
    refine own_ch HW.out hlast fun b hb e => ?_
    obtain ⟨c, hc, _⟩ := own_cells HW.out hb
    exact HD2.out.ne hc (by decide) e.symm
  · rcases HA.out with h | h
    · exact .inl (h ▸ hk)
    · rw [h] at hk
      have := HT1.out.size
      simp at hk
      omega
end Go.Proofs.Ytlmkhieojgpgcaa
