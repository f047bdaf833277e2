/- What the frames of stage 11's tied cards share: the wrap that keeps the world's shape beside the listed variables; what these say. -/
import Derived.Test.YtkcnmajjfljilaaGreatDoorHexA
import Derived.Test.YtkcnmajjfljilaaGreatDoorRows
import Derived.HandedShaped
import Derived.ProofKit
import Derived.Shelf.Vars
import Derived.Lib.LaidU8
import Derived.MakeChecks
namespace Go.Proofs.YtkcnmajjfljilaaGreatDoor
open Go

theorem cell_lt {w : World} {b o : Nat} {v : Value} (h : w.cell? ⟨b, o, none⟩ = some v) : b < w.heap.size := by
  unfold World.cell? at h
  rcases Nat.lt_or_ge b w.heap.size with h1 | h1
  · exact h1
  · simp [Array.getElem?_eq_none h1] at h
theorem trod_cell {P : Program} {w : World} {x : String × DataW Unit} {g t e n i : Nat} {ds : List (DataW Unit)} {z : Int} (h : Lib.VarReads P w x.1 x.2) (hg : P.globalNamed x.1 = some g) (ht : (P.globals[g]?).map (·.type) = some t) (hu : P.underlying t = some (.array n e)) (he : P.underlying e = some (.int .u8))
    (hc : P.cellsOf e = 1) (hd : x.2 = .agg ds) (hi : i < n) (hz : ds[i]? = some (.lit (.int .u8 z))) : w.cell? ⟨g, i, none⟩ = some (.int .u8 z) := by
  obtain ⟨g', t', cs, fuel, p, h1, h2, h3, h4⟩ := h
  obtain rfl := Option.some.inj (hg.symm.trans h1)
  obtain rfl := Option.some.inj (ht.symm.trans h2)
  rw [hd] at h4
  obtain ⟨fuel', d, q, h5, h6⟩ := Lib.array_elem hu h4 i hi
  rw [hc, Nat.mul_one] at h6
  obtain ⟨k, h7, h8, _⟩ := DataW.trod_int he h6
  have h9 : d = .lit (.int .u8 k) := congrArg Prod.fst h8
  rw [hz, h9] at h5
  injection h5 with h5
  injection h5 with h5
  injection h5 with _ h5
  subst h5
  rw [World.var?_cell h1 h3 i]
  have h10 : (cs.toList.drop i)[0]? = some (.int .u8 z) := by
    have := congrArg (·[0]?) h7
    simpa [List.getElem?_take] using this
  simpa using h10
/-- The table of the library, as the rows list it. -/
def tabX : String × DataW Unit := Rows.sourceNilRow.laid.getD 1 (default, .nil)
theorem tab_of {w : World} {l : List (String × DataW Unit)} (h : laidMet Tryz.prog l w) (hm : tabX ∈ l) : Tab w.heap.size w := by
  have hv : Lib.VarReads Tryz.prog w tabX.1 tabX.2 := Lib.laidMet.reads h hm
  have hc := trod_cell (ds := match tabX.2 with | .agg l => l | _ => []) (z := 4) (i := 15) (g := 4) hv (by kernel_rfl) (by kernel_rfl) Tryz.underlying252 Tryz.underlying5 (by kernel_rfl) rfl (by decide) rfl
  exact ⟨cell_lt hc, hc⟩
theorem handed_shaped {H : Type} {enc : TypeId × Value → H} {a : Assume} {C : Checked} {os : Os} {f : FuncId} {fn : Func} {s : ChangeSpec} {conds : List PathCond} {apart fresh handsOn again : Bool} {X : World → Array Value → Prop}
    (hX : ∀ (w w' : World) (args : Array Value), w.heap = w'.heap → X w args → X w' args) (own : ownKnob C.prog.godebug = none) (started : os.Started) (noInit : C.prog.inits.idxOf? f = none) (hfn : C.prog.funcs[f]? = some fn)
    (witness : ∃ (w : World) (tape : Tape) (i : Input), w.os = os ∧ (w.forCall tape i).Shaped C.prog ∧ i.vars = [] ∧ Input.okWide C.prog (w.forCall tape i) .any w.heap.size f i ∧
      ((s.pre enc C.prog fn conds apart (w.forCall tape i).memory i.args ∧ X (w.forCall tape i).memory i.args) ∧ sizedMet enc C.prog fn (OpenSpec.ofChange s) apart (w.forCall tape i).memory i.args) ∧ a.holds C.prog (lone (Frame.enter C.prog f i.args .normal) [] (w.forCall tape i)))
    (contract : ∀ (W : World) (base : Nat) (args : Array Value) (ds gs : List (DataW H)) (before : List MemPlace),
      (∀ (j : Nat) t v, fn.params[j]? = some t → args[j]? = some v → Value.okWide C.prog W .any base t v) → DataW.Whole enc C.prog fn.params.toList s.vars apart W args.toList ds gs before →
      conds.all (PathCond.test C.prog ⟨fn.params.toList, ds, s.plain.varTypes C.prog, gs⟩) = true → (DataW.weightsEach C.prog (fn.params.toList ++ s.plain.varTypes C.prog) (ds ++ gs)).all (· ≤ reachBytes) = true → X W args →
      W.ShapedOpen C.prog → a.holds C.prog (lone (Frame.enter C.prog f args .normal) [] W) →
      Calls C.prog f args W fun e W' => ∃ v, e = .returned v ∧ s.post enc C.prog fn apart fresh handsOn again W args v W') :
    ReturnsInHanded a C os f .any (fun w args => (s.pre enc C.prog fn conds apart w args ∧ X w args) ∧ sizedMet enc C.prog fn (OpenSpec.ofChange s) apart w args) (s.post enc C.prog fn apart fresh handsOn again) := by
  refine returnsInHanded_of_calls own started noInit witness ?_
  intro w tape i _ hshape _ hok hpre hholds
  obtain ⟨_, _, _, fn', hfn', _, _, _, _, hval⟩ := hok
  obtain rfl : fn' = fn := Option.some.inj (hfn'.symm.trans hfn)
  obtain ⟨⟨⟨ds, gs, before, hw, hc⟩, hx⟩, hz⟩ := hpre
  refine (contract (w.forCall tape i) w.heap.size i.args ds gs before hval (DataW.Whole.of_heap (w' := w.forCall tape i) (by rfl) hw) hc (hz.weights hw) (hX _ _ _ (by rfl) hx) hshape hholds).mono fun e W' ⟨v, he, hp⟩ => ?_
  subst he
  exact ChangeSpec.post_blind hp
end Go.Proofs.YtkcnmajjfljilaaGreatDoor
