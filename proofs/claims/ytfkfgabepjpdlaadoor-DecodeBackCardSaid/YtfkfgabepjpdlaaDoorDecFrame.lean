/- What the frames of stage 12's tied cards share: what the listed variables say; columns opened to plain words. -/
import Derived.Test.YtfkfgabepjpdlaaDoorDecW8
import Derived.Test.YtfkfgabepjpdlaaDoorRows
import Derived.HandedShaped
import Derived.ProofKit
import Derived.Shelf.Vars
import Derived.Lib.LaidU8
import Derived.Lib.LaidTab
import Derived.MakeChecks
namespace Go.Proofs.YtfkfgabepjpdlaaDoor
open Go
set_option linter.unusedVariables false

theorem cell_lt {w : World} {b o : Nat} {v : Value} (h : w.cell? ⟨b, o, none⟩ = some v) : b < w.heap.size := by
  unfold World.cell? at h
  rcases Nat.lt_or_ge b w.heap.size with h1 | h1
  · exact h1
  · simp [Array.getElem?_eq_none h1] at h
theorem trod_cell {P : Program} {w : World} {x : String × DataW Unit} {g t e n i : Nat} {ds : List (DataW Unit)} {z : Int} (h : Lib.VarReads P w x.1 x.2) (hg : P.globalNamed x.1 = some g) (ht : (P.globals[g]?).map (·.type) = some t) (hu : P.underlying t = some (.array n e)) (he : P.underlying e = some (.int .u8))
    (hc : P.cellsOf e = 1) (hd : x.2 = .agg ds) (hi : i < n) (hz : ds[i]? = some (.lit (.int .u8 z))) : w.cell? ⟨g, i, none⟩ = some (.int .u8 z) := by
  obtain ⟨g', t', cs, fuel, p, h1, h2, h3, h4⟩ := h
  obtain rfl := Option.some.inj (hg.symm.trans h1)
  obtain rfl := Option.some.inj (ht.symm.trans h2)
  rw [hd] at h4
  obtain ⟨fuel', d, q, h5, h6⟩ := Lib.array_elem hu h4 i hi
  rw [hc, Nat.mul_one] at h6
  obtain ⟨k, h7, h8, _⟩ := DataW.trod_int he h6
  have h9 : d = .lit (.int .u8 k) := congrArg Prod.fst h8
  rw [hz, h9] at h5
  injection h5 with h5
  injection h5 with h5
  injection h5 with _ h5
  subst h5
  rw [World.var?_cell h1 h3 i]
  have h10 : (cs.toList.drop i)[0]? = some (.int .u8 z) := by
    have := congrArg (·[0]?) h7
    simpa [List.getElem?_take] using this
  simpa using h10
theorem trod_iface {H : Type} {enc : TypeId × Value → H} {P : Program} {w : World} {base : Nat} {spare : Nat → Bool} {fuel : Nat} {t : TypeId} {ms : Array (String × TypeId)} {cs : List Value} {x : DataW H × List MemPlace}
    (ht : P.underlying t = some (.interface ms)) (h : DataW.trod enc P w base spare false fuel t cs = some x) : ∃ ev, cs = [ev] ∧ (ev = .nilIface ∨ ∃ te pe, ev = .iface te pe) := by
  cases fuel with
  | zero => simp [DataW.trod] at h
  | succ n =>
    unfold DataW.trod at h
    rw [ht] at h
    simp only [] at h
    split at h <;> first
      | (simp_all; done)
      | skip
theorem sent_cell {P : Program} {w : World} {x : String × DataW Unit} {g t : Nat} {ms : Array (String × TypeId)} (h : Lib.VarReads P w x.1 x.2) (hg : P.globalNamed x.1 = some g) (ht : (P.globals[g]?).map (·.type) = some t) (hu : P.underlying t = some (.interface ms)) :
    ∃ ev, w.cell? ⟨g, 0, none⟩ = some ev ∧ (ev = .nilIface ∨ ∃ te pe, ev = .iface te pe) := by
  obtain ⟨g', t', cs, fuel, p, h1, h2, h3, h4⟩ := h
  obtain rfl := Option.some.inj (hg.symm.trans h1)
  obtain rfl := Option.some.inj (ht.symm.trans h2)
  obtain ⟨ev, h5, h6⟩ := trod_iface hu h4
  refine ⟨ev, ?_, h6⟩
  rw [World.var?_cell h1 h3 0]
  have := congrArg (·[0]?) h5
  simpa using this
/-- The library's variables, as the rows list them. -/
def errX (k : Nat) : String × DataW Unit := Rows.decodeColsRow.laid.getD k (default, .nil)
theorem pow_of {w : World} {l : List (String × DataW Unit)} (h : laidMet Tryd.prog l w) (hm : errX 2 ∈ l) : Lib.TabIs Tryd.prog w "internal/strconv.uint64pow10" .u64 Lib.pow10Tab := by
  have hv : Lib.VarReads Tryd.prog w (errX 2).1 (errX 2).2 := Lib.laidMet.reads h hm
  obtain ⟨g', t', cs, fuel, p, h1, h2, h3, h4⟩ := hv
  obtain rfl := Option.some.inj ((show Tryd.prog.globalNamed (errX 2).1 = some 2 by kernel_rfl).symm.trans h1)
  obtain rfl := Option.some.inj ((show (Tryd.prog.globals[2]?).map (·.type) = some 119 by kernel_rfl).symm.trans h2)
  have hd : (errX 2).2 = Lib.tabData .u64 Lib.pow10Tab := rfl
  rw [hd] at h4
  have hc := Lib.cells_of_tab Tryd.underlying119 Tryd.underlying85 (by kernel_rfl) (by kernel_rfl) h4
  have hn : (errX 2).1 = "internal/strconv.uint64pow10" := rfl
  rw [hn] at h3
  unfold Lib.TabIs
  rw [h3, ← hc]
theorem env_of {w : World} {l : List (String × DataW Unit)} (h : laidMet Tryd.prog l w) (h2 : errX 2 ∈ l) (h3 : errX 3 ∈ l) (h4 : errX 4 ∈ l) : Env w.heap.size w := by
  obtain ⟨e1, c1, k1⟩ := sent_cell (g := 0) (x := errX 4) (Lib.laidMet.reads (n := (errX 4).1) (d := (errX 4).2) h h4) (by kernel_rfl) (by kernel_rfl) Tryd.underlying70
  obtain ⟨e2, c2, k2⟩ := sent_cell (g := 1) (x := errX 3) (Lib.laidMet.reads (n := (errX 3).1) (d := (errX 3).2) h h3) (by kernel_rfl) (by kernel_rfl) Tryd.underlying70
  have hp := pow_of h h2
  have hc := hp.cell (g := 2) (by kernel_rfl) 0 (by decide)
  exact ⟨⟨cell_lt c1, cell_lt c2, cell_lt hc⟩, ⟨e1, c1, k1⟩, ⟨e2, c2, k2⟩, hp⟩
theorem handed_shaped {H : Type} {enc : TypeId × Value → H} {a : Assume} {C : Checked} {os : Os} {f : FuncId} {fn : Func} {s : ChangeSpec} {conds : List PathCond} {apart fresh handsOn again : Bool} {X : World → Array Value → Prop}
    (hX : ∀ (w w' : World) (args : Array Value), w.heap = w'.heap → X w args → X w' args) (own : ownKnob C.prog.godebug = none) (started : os.Started) (noInit : C.prog.inits.idxOf? f = none) (hfn : C.prog.funcs[f]? = some fn)
    (witness : ∃ (w : World) (tape : Tape) (i : Input), w.os = os ∧ (w.forCall tape i).Shaped C.prog ∧ i.vars = [] ∧ Input.okWide C.prog (w.forCall tape i) .any w.heap.size f i ∧
      ((s.pre enc C.prog fn conds apart (w.forCall tape i).memory i.args ∧ X (w.forCall tape i).memory i.args) ∧ sizedMet enc C.prog fn (OpenSpec.ofChange s) apart (w.forCall tape i).memory i.args) ∧ a.holds C.prog (lone (Frame.enter C.prog f i.args .normal) [] (w.forCall tape i)))
    (contract : ∀ (W : World) (base : Nat) (args : Array Value) (ds gs : List (DataW H)) (before : List MemPlace),
      (∀ (j : Nat) t v, fn.params[j]? = some t → args[j]? = some v → Value.okWide C.prog W .any base t v) → DataW.Whole enc C.prog fn.params.toList s.vars apart W args.toList ds gs before →
      conds.all (PathCond.test C.prog ⟨fn.params.toList, ds, s.plain.varTypes C.prog, gs⟩) = true → (DataW.weightsEach C.prog (fn.params.toList ++ s.plain.varTypes C.prog) (ds ++ gs)).all (· ≤ reachBytes) = true → X W args →
      W.ShapedOpen C.prog → a.holds C.prog (lone (Frame.enter C.prog f args .normal) [] W) →
      Calls C.prog f args W fun e W' => ∃ v, e = .returned v ∧ s.post enc C.prog fn apart fresh handsOn again W args v W') :
    ReturnsInHanded a C os f .any (fun w args => (s.pre enc C.prog fn conds apart w args ∧ X w args) ∧ sizedMet enc C.prog fn (OpenSpec.ofChange s) apart w args) (s.post enc C.prog fn apart fresh handsOn again) := by
  refine returnsInHanded_of_calls own started noInit witness ?_
  intro w tape i _ hshape _ hok hpre hholds
  obtain ⟨_, _, _, fn', hfn', _, _, _, _, hval⟩ := hok
  obtain rfl : fn' = fn := Option.some.inj (hfn'.symm.trans hfn)
  obtain ⟨⟨⟨ds, gs, before, hw, hc⟩, hx⟩, hz⟩ := hpre
  refine (contract (w.forCall tape i) w.heap.size i.args ds gs before hval (DataW.Whole.of_heap (w' := w.forCall tape i) (by rfl) hw) hc (hz.weights hw) (hX _ _ _ (by rfl) hx) hshape hholds).mono fun e W' ⟨v, he, hp⟩ => ?_
  subst he
  exact ChangeSpec.post_blind hp
section
variable {H : Type} {enc : TypeId × Value → H} {w : World} {base : Nat} {spare : Nat → Bool} {held : Bool}
set_option maxRecDepth 100000 in
theorem trod_c {m : Nat} {cs : List Value} {x : DataW H × List MemPlace} (h : DataW.trod enc Tryd.prog w base spare held m 51 cs = some x) : ∃ v : C, v.wf ∧ cs = C.cells v := by
  obtain ⟨xs, n, _, _, hlen, hxl, hf⟩ := DataW.trod_struct Tryd.underlying51 h
  rw [show Tryd.prog.cellsOf 51 = 2 by kernel_rfl] at hlen
  match cs, hlen with
  | [c0, c1], _ =>
    match xs, hxl with
    | [y0, y1], _ =>
      have h0 : DataW.trod enc Tryd.prog w base spare held n 9 (([c0, c1].drop 0).take (Tryd.prog.cellsOf 9)) = some y0 := hf 0 _ rfl
      have h1 : DataW.trod enc Tryd.prog w base spare held n 3 (([c0, c1].drop 1).take (Tryd.prog.cellsOf 3)) = some y1 := hf 1 _ rfl
      rw [show Tryd.prog.cellsOf 9 = 1 by kernel_rfl] at h0
      rw [show Tryd.prog.cellsOf 3 = 1 by kernel_rfl] at h1
      obtain ⟨k, e0, _, w0⟩ := DataW.trod_string Tryd.underlying9 h0
      obtain ⟨z, e1, _, w1⟩ := DataW.trod_int Tryd.underlying3 h1
      simp at e0 e1
      subst e0 e1
      exact ⟨⟨k, z⟩, ⟨in64_wf w1, w0⟩, rfl⟩
end
end Go.Proofs.YtfkfgabepjpdlaaDoor
