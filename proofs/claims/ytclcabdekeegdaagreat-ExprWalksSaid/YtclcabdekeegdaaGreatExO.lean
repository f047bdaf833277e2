/- Layer 13: an expression that is handed in, opened to a tree (one level is the seat's own: 'one'). -/
import Derived.Test.YtclcabdekeegdaaGreatExP
import Derived.Test.YtclcabdekeegdaaGreatOpen
namespace Go.Proofs.YtclcabdekeegdaaGreat
open Go Go.ChangeShapes Go.WideShapes Go.Deep Go.RowKit Go.Joins
set_option linter.unusedVariables false

mutual
/-- Whole numbers of 64 bits, texts that there may be. -/
def X.wf : X → Prop
  | .mk o n v ks => in64 o ∧ n.size ≤ 9223372036854775807 ∧ v.wf ∧ X.wfL ks
def X.wfL : List X → Prop
  | [] => True
  | k :: ks => X.wf k ∧ X.wfL ks
end
theorem X.wfL_mem : ∀ {l : List X}, X.wfL l → ∀ e ∈ l, e.wf
  | k :: ks, h, e, he => by
    simp only [X.wfL] at h
    rcases List.mem_cons.1 he with rfl | he
    · exact h.1
    · exact X.wfL_mem h.2 e he
theorem X.wfL_of : ∀ {l : List X}, (∀ e ∈ l, e.wf) → X.wfL l
  | [], _ => by simp only [X.wfL]
  | k :: ks, h => by
    simp only [X.wfL]
    exact ⟨h k (by simp), X.wfL_of fun e he => h e (by simp [he])⟩
theorem KidsL.of_at {w : World} {B b off : Nat} (hlt : b < B) : ∀ {l : List X} {i : Nat},
    (∀ (j : Nat) (hj : j < l.length), ∃ A2 c2, (∀ q (hq : q < 6), w.cell? ⟨b, off + (i + j) * 6 + q, none⟩ = some ((l[j].cells A2 c2)[q]'(by simpa [X.cells] using hq))) ∧ KidsAt w B l[j] A2 c2) → KidsL w B l (some ⟨b, off, none⟩) i
  | [], i, _ => by simp only [KidsL]
  | k :: ks, i, h => by
    simp only [KidsL]
    obtain ⟨A2, c2, h1, h2⟩ := h 0 (by simp)
    refine ⟨⟨b, off, A2, c2, rfl, hlt, h1, h2⟩, KidsL.of_at hlt fun j hj => ?_⟩
    have := h (j + 1) (by simpa using hj)
    rw [show i + (j + 1) = i + 1 + j by omega] at this
    exact this
theorem open_x_gen {H : Type} {enc : TypeId × Value → H} {P : Program} {w : World} {T TS : TypeId} (hTS : P.underlying TS = some (.slice T)) (hc : P.cellsOf T = 6)
    (one : ∀ {m : Nat} {cs : List Value} {x : DataW H × List MemPlace}, DataW.trod enc P w 0 (fun _ => true) true m T cs = some x →
      ∃ (n : Nat) (o : Int) (nm : ByteArray) (v : V) (s : Value) (y : DataW H × List MemPlace), m = n + 1 ∧ in64 o ∧ nm.size ≤ 9223372036854775807 ∧ v.wf ∧ cs = [.int .i64 o, .string nm, .int .i64 v.k, .int .i64 v.n, .string v.s, s] ∧ DataW.trod enc P w 0 (fun _ => true) true n TS [s] = some y) :
    ∀ (m : Nat) {cs : List Value} {x : DataW H × List MemPlace}, DataW.trod enc P w 0 (fun _ => true) true m T cs = some x → ∃ (e : X) (A : Option Addr) (c : Nat), e.wf ∧ cs = e.cells A c ∧ KidsAt w w.heap.size e A c := by
  intro m
  induction m using Nat.strongRecOn with
  | ind m ih =>
    intro cs x h
    obtain ⟨n, o, nm, v, s, y, rfl, ho, hn, hv, rfl, hs⟩ := one h
    rcases DataW.trod_slice hTS hs with ⟨h0, _⟩ | ⟨a, len, cap, elems, rest, n2, rfl, h0, _, _, hle, hm, hlen, hel, _, _⟩
    · injection h0 with h0 _
      subst h0
      refine ⟨.mk o nm v [], none, 0, ?_, rfl, ?_⟩
      · simp only [X.wf, X.wfL]; exact ⟨ho, hn, hv, trivial⟩
      · simp only [KidsAt, KidsL]; exact ⟨Nat.le_refl _, Nat.zero_le _, trivial⟩
    · injection h0 with h0 _
      subst h0
      rw [hc] at hel
      have per : ∀ i, i < len → ∃ (u : X) (A2 : Option Addr) (c2 : Nat), u.wf ∧ (∀ q (hq : q < 6), w.cell? (a.add (i * 6 + q)) = some ((u.cells A2 c2)[q]'(by simpa [X.cells] using hq))) ∧ KidsAt w w.heap.size u A2 c2 := by
        intro i hi
        have h1 := hel i hi
        rw [List.getElem?_eq_getElem (by omega)] at h1
        obtain ⟨cs', hc', ht⟩ := Option.bind_eq_some_iff.1 h1
        obtain ⟨u, A2, c2, hu, rfl, hk⟩ := ih n2 (by omega) ht
        obtain ⟨_, hcl, hat⟩ := World.cells?_some hc'
        refine ⟨u, A2, c2, hu, fun q hq => ?_, hk⟩
        rw [← Go.Deep.add_add, hat q hq]
        exact List.getElem?_eq_getElem _
      have build : ∀ k, k ≤ len → ∃ l : List X, l.length = k ∧ (∀ u ∈ l, u.wf) ∧ ∀ j (hj : j < l.length), ∃ A2 c2, (∀ q (hq : q < 6), w.cell? (a.add (j * 6 + q)) = some ((l[j].cells A2 c2)[q]'(by simpa [X.cells] using hq))) ∧ KidsAt w w.heap.size l[j] A2 c2 := by
        intro k
        induction k with
        | zero => intro _; exact ⟨[], rfl, by simp, fun q hq => by simp at hq⟩
        | succ k ihk =>
          intro hk
          obtain ⟨l, h1, h2, h3⟩ := ihk (by omega)
          obtain ⟨u, A2, c2, hu, hcu, hku⟩ := per k (by omega)
          refine ⟨l ++ [u], by simp [h1], fun x hx => ?_, fun j hj => ?_⟩
          · rcases List.mem_append.1 hx with h | h
            · exact h2 x h
            · simp at h; subst h; exact hu
          · by_cases hj2 : j < l.length
            · simp only [List.getElem_append_left hj2]
              exact h3 j hj2
            · obtain rfl : j = l.length := by simp at hj; omega
              simp only [List.getElem_concat_length]
              subst h1
              exact ⟨A2, c2, hcu, hku⟩
      obtain ⟨l, h1, h2, h3⟩ := build len (Nat.le_refl _)
      refine ⟨.mk o nm v l, some a, cap, ?_, by rw [X.cells]; simp only [X.op, X.nm, X.v, X.ks]; rw [h1], ?_⟩
      · simp only [X.wf]; exact ⟨ho, hn, hv, X.wfL_of h2⟩
      · simp only [KidsAt]
        refine ⟨by omega, hm, ?_⟩
        cases l with
        | nil => simp only [KidsL]
        | cons k ks =>
          obtain ⟨A2, c2, z, _⟩ := h3 0 (by simp)
          have z0 := z 0 (by decide)
          have hsp : a.spot = none := by
            have := World.cell?_spot z0
            simpa [Addr.add] using this
          obtain ⟨b, off, sp⟩ := a
          obtain rfl : sp = none := hsp
          have z1 := z0
          rw [add_at] at z1
          refine KidsL.of_at (World.block_lt_of_cell? w _ z1) fun j hj => ?_
          obtain ⟨A3, c3, h5, h6⟩ := h3 j hj
          refine ⟨A3, c3, fun q hq => ?_, h6⟩
          have := h5 q hq
          rw [add_at] at this
          rw [Nat.add_assoc]
          rw [show (0 + j) * 6 = j * 6 by rw [Nat.zero_add]]
          exact this
end Go.Proofs.YtclcabdekeegdaaGreat
