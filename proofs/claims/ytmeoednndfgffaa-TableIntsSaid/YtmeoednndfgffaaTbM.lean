/- Layer 17: a tree of keys, as it lies in memory. -/
import Derived.Test.YtmeoednndfgffaaTbP
import Derived.Test.YtmeoednndfgffaaTaR1
import Derived.Test.YtmeoednndfgffaaTaCh
namespace Go.Proofs.Ytmeoednndfgffaa
open Go Go.ChangeShapes Go.WideShapes Go.ChangeAt Go.RowKit
set_option linter.unusedVariables false
set_option linter.unusedSimpArgs false
theorem lt_blk {w : World} {k : Nat} {o : Obj} (h : w.heap[k]? = some o) : k < w.heap.size := (Array.getElem?_eq_some_iff.1 h).1
theorem cell_lt {w : World} {p : Addr} {v : Value} (h : w.cell? p = some v) : p.block < w.heap.size := by
  by_cases hl : p.block < w.heap.size
  · exact hl
  · have : w.heap[p.block]? = none := Array.getElem?_eq_none (by omega)
    simp [World.cell?, this] at h
def limB : Nat := 4000000
/-- S, or new since w. -/
def Up (S : Nat → Prop) (w : World) (k : Nat) : Prop := S k ∨ w.heap.size ≤ k
/-- A tree of l in blocks of S: its nodes hold a key, a thing, how many there are, the trees ahead and behind. -/
inductive TrAt {α : Type} (ty : TypeId) (enc : α → Value) (S : Nat → Prop) (w : World) : Value → List (KV α) → Prop
  | nil : TrAt ty enc S w (.pointer none) []
  | node {b : Nat} {x : KV α} {a c : Value} {l r : List (KV α)} (hS : S b) (hb : w.heap[b]? = some (.cells #[.string x.k, enc x.v, .int .i64 ((l.length + 1 + r.length : Nat) : Int), a, c] ty)) (ha : TrAt ty enc S w a l) (hc : TrAt ty enc S w c r) : TrAt ty enc S w (.pointer (some ⟨b, 0, none⟩)) (l ++ x :: r)
/-- A node of a key and a thing, whatever its sides. -/
def NdAt {α : Type} (ty : TypeId) (enc : α → Value) (w : World) (b : Nat) (x : KV α) : Prop := ∃ z a c, w.heap[b]? = some (.cells #[.string x.k, enc x.v, z, a, c] ty)
/-- How many keys a node says there are. -/
def szT (w : World) : Value → Nat
  | .pointer (some p) => match w.cell? ⟨p.block, 2, none⟩ with
    | some (.int _ n) => n.toNat
    | _ => 0
  | _ => 0
section
variable {α : Type} {ty : TypeId} {enc : α → Value} {S T : Nat → Prop} {w w' : World} {v : Value} {l : List (KV α)} {b : Nat} {x : KV α}
theorem TrAt.stay (h : TrAt ty enc S w v l) (hk : ∀ k, S k → k < w.heap.size → w'.heap[k]? = w.heap[k]?) : TrAt ty enc S w' v l := by
  induction h with
  | nil => exact .nil
  | node hS hb _ _ iha ihc => exact .node hS ((hk _ hS (lt_blk hb)).trans hb) iha ihc
theorem TrAt.mono (h : TrAt ty enc S w v l) (hk : ∀ k, S k → k < w.heap.size → T k) : TrAt ty enc T w v l := by
  induction h with
  | nil => exact .nil
  | node hS hb _ _ iha ihc => exact .node (hk _ hS (lt_blk hb)) hb iha ihc
theorem TrAt.on (h : TrAt ty enc S w v l) (hb : Below w.heap.size w w') : TrAt ty enc S w' v l := h.stay fun k _ hk => hb.block k hk
theorem TrAt.up (h : TrAt ty enc S w v l) : TrAt ty enc (Up S w) w v l := h.mono fun _ hk _ => .inl hk
/-- A tree in what is new since a later world. -/
theorem TrAt.upup {u : World} (h : TrAt ty enc (Up (Up S u) w) w' v l) (hs : u.heap.size ≤ w.heap.size) : TrAt ty enc (Up S u) w' v l := h.mono fun k hk _ => by
  rcases hk with (hk | hk) | hk
  · exact .inl hk
  · exact .inr hk
  · exact .inr (Nat.le_trans hs hk)
theorem TrAt.of_up {u : World} (h : TrAt ty enc (Up S w) w' v l) (hs : u.heap.size ≤ w.heap.size) : TrAt ty enc (Up S u) w' v l := h.mono fun k hk _ => hk.elim .inl (fun h => .inr (Nat.le_trans hs h))
theorem NdAt.on (h : NdAt ty enc w b x) (hb : Below w.heap.size w w') : NdAt ty enc w' b x := by
  obtain ⟨z, a, c, h⟩ := h
  exact ⟨z, a, c, (hb.block _ (lt_blk h)).trans h⟩
theorem NdAt.c0 (h : NdAt ty enc w b x) : w.cell? ⟨b, 0, none⟩ = some (.string x.k) := by
  obtain ⟨z, a, c, h⟩ := h
  simp [World.cell?, h]
theorem NdAt.c1 (h : NdAt ty enc w b x) : w.cell? ⟨b, 1, none⟩ = some (enc x.v) := by
  obtain ⟨z, a, c, h⟩ := h
  simp [World.cell?, h]
/-- What a tree is: none, or a node. -/
theorem TrAt.open_ (h : TrAt ty enc S w v l) : (v = .pointer none ∧ l = []) ∨ ∃ b x a c l1 r1, v = .pointer (some ⟨b, 0, none⟩) ∧ l = l1 ++ x :: r1 ∧ S b ∧ w.heap[b]? = some (.cells #[.string x.k, enc x.v, .int .i64 ((l1.length + 1 + r1.length : Nat) : Int), a, c] ty) ∧ TrAt ty enc S w a l1 ∧ TrAt ty enc S w c r1 := by
  cases h with
  | nil => exact .inl ⟨rfl, rfl⟩
  | node hS hb ha hc => exact .inr ⟨_, _, _, _, _, _, rfl, rfl, hS, hb, ha, hc⟩
theorem TrAt.ptr (h : TrAt ty enc S w v l) : ∃ p, v = .pointer p := by
  cases h with
  | nil => exact ⟨_, rfl⟩
  | node hS hb ha hc => exact ⟨_, rfl⟩
theorem TrAt.sz (h : TrAt ty enc S w v l) : szT w v = l.length := by
  cases h with
  | nil => rfl
  | @node b x a c l r hS hb ha hc =>
    have h2 : w.cell? ⟨b, 2, none⟩ = some (.int .i64 ((l.length + 1 + r.length : Nat) : Int)) := by simp [World.cell?, hb]
    simp only [szT, h2, Int.toNat_natCast, List.length_append, List.length_cons]
    omega
theorem TrAt.some_ (h : TrAt ty enc S w v l) (hl : l ≠ []) : ∃ b x a c l1 r1, v = .pointer (some ⟨b, 0, none⟩) ∧ l = l1 ++ x :: r1 ∧ S b ∧ w.heap[b]? = some (.cells #[.string x.k, enc x.v, .int .i64 ((l1.length + 1 + r1.length : Nat) : Int), a, c] ty) ∧ TrAt ty enc S w a l1 ∧ TrAt ty enc S w c r1 := by
  rcases h.open_ with ⟨_, h⟩ | h
  · exact absurd h hl
  · exact h
/-- The cells of a node. -/
theorem nd_cells {x : KV α} {z a c : Value} (h : w.heap[b]? = some (.cells #[.string x.k, enc x.v, z, a, c] ty)) : w.cell? ⟨b, 0, none⟩ = some (.string x.k) ∧ w.cell? ⟨b, 1, none⟩ = some (enc x.v) ∧ w.cell? ⟨b, 2, none⟩ = some z ∧ w.cell? ⟨b, 3, none⟩ = some a ∧ w.cell? ⟨b, 4, none⟩ = some c := by
  refine ⟨?_, ?_, ?_, ?_, ?_⟩ <;> simp [World.cell?, h]
/-- A new node between two trees. -/
theorem TrAt.made {u : World} {a c : Value} {l r : List (KV α)} (ha : TrAt ty enc (Up S u) w a l) (hc : TrAt ty enc (Up S u) w c r) (hu : u.heap.size ≤ w.heap.size) :
    TrAt ty enc (Up S u) (w.alloc (.cells #[.string x.k, enc x.v, .int .i64 ((l.length + 1 + r.length : Nat) : Int), a, c] ty)) (.pointer (some ⟨w.heap.size, 0, none⟩)) (l ++ x :: r) :=
  .node (.inr hu) (World.alloc_heap_new w _) (ha.stay fun k _ hk => Below.heap_alloc w _ k hk) (hc.stay fun k _ hk => Below.heap_alloc w _ k hk)
end
end Go.Proofs.Ytmeoednndfgffaa
