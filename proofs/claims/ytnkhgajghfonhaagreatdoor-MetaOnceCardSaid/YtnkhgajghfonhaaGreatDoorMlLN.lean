/- Several texts in one: MlL, MlM, MlN. -/
import Derived.Test.YtnkhgajghfonhaaGreatDoorMlIK
import Derived.Test.YtnkhgajghfonhaaGreatDoorPlShelf
/- metalog: where a log lies; Len, Get, greatest. -/
namespace Go.Proofs.YtnkhgajghfonhaaGreatDoor
open Go Go.ChangeShapes Go.WideShapes Go.ChangeAt Go.RowKit Go.ChangeMaps Go.MapKept
set_option linter.unusedVariables false
set_option linter.unusedSimpArgs false

def ints (fs : List Int) : List Value := fs.map (Value.int .i64)
/-- A log: its cells, its rows, its folds' numbers; its blocks are among P. -/
structure LogAt (P : Nat → Prop) (l f : Nat) (dir : Nm) (rs : List Mr) (fs : List Int) (w : World) : Prop where
  own : ∃ A c A2 c2, Cells w l #[adr f, .string (txt dir), .slice A rs.length c, .slice A2 fs.length c2] 66 ∧ w.ownsRow 0 123 4 (.slice A rs.length c) rs.length (rs.flatMap mrCells) ∧
    w.ownsRow 0 2 1 (.slice A2 fs.length c2) fs.length (ints fs) ∧ (∀ k, (Value.slice A 0 0).ownBlock = some k → P k) ∧ ∀ k, (Value.slice A2 0 0).ownBlock = some k → P k
  pl : P l
  bytes : ∀ r ∈ rs, BytesAt w w.heap.size r.A r.b ∧ ∀ a, r.A = some a → P a.block ∧ ∃ c z, w.heap[a.block]? = some (.cells c 5 z)
  rise : Rise rs
  ids : ∀ r ∈ rs, 0 ≤ r.id ∧ r.id ≤ 9223372036854775807
  fids : ∀ i ∈ fs, 0 ≤ i ∧ i ≤ 9223372036854775807
  blen : ∀ r ∈ rs, r.b.length ≤ 16777208
  lens : rs.length ≤ 999999980 ∧ fs.length ≤ 999999980
  lt : ∀ k, P k → k < w.heap.size
theorem BytesAt.chK {S P : Nat → Prop} {w w' : World} {A : Option Addr} {b : List UInt8} (h : BytesAt w w.heap.size A b) (hP : ∀ a, A = some a → P a.block) (k : Ch S w w') (hS : ∀ i, P i → ¬ S i) : BytesAt w' w'.heap.size A b := by
  intro j hj
  obtain ⟨g, off, e, hlt, hc⟩ := h j hj
  refine ⟨g, off, e, Nat.lt_of_lt_of_le hlt k.size, ?_⟩
  exact (World.cell?_of_block (a := ⟨g, off + j, none⟩) (k.block g hlt (hS _ (hP _ e)))).trans hc
section
variable {P S : Nat → Prop} {l f : Nat} {dir : Nm} {rs : List Mr} {fs : List Int} {w w' : World}
theorem LogAt.kept (h : LogAt P l f dir rs fs w) (k : Ch S w w') (hS : ∀ i, P i → ¬ S i) : LogAt P l f dir rs fs w' := by
  obtain ⟨A, c, A2, c2, h1, h2, h3, h4, h5⟩ := h.own
  refine ⟨⟨A, c, A2, c2, h1.ch k (hS _ h.pl), own_ch h2 k (fun i hi => hS _ (h4 i (by cases A <;> exact hi))), own_ch h3 k (fun i hi => hS _ (h5 i (by cases A2 <;> exact hi))), h4, h5⟩, h.pl, fun r hr => ?_, h.rise, h.ids, h.fids, h.blen, h.lens, fun i hi => Nat.lt_of_lt_of_le (h.lt i hi) k.size⟩
  obtain ⟨b1, b2⟩ := h.bytes r hr
  refine ⟨b1.chK (fun a ha => (b2 a ha).1) k hS, fun a ha => ⟨(b2 a ha).1, ?_⟩⟩
  obtain ⟨c, z, hc⟩ := (b2 a ha).2
  exact ⟨c, z, (k.block _ (Array.getElem?_eq_some_iff.1 hc).1 (hS _ (b2 a ha).1)).trans hc⟩
theorem LogAt.below (h : LogAt P l f dir rs fs w) (hb : Below w.heap.size w w') : LogAt P l f dir rs fs w' := h.kept (chb hb) (fun _ _ h => h)
theorem LogAt.tb (h : LogAt P l f dir rs fs w) : ∃ A c, Tb w l 2 A c rs := by
  obtain ⟨A, c, A2, c2, h1, h2, h3, h4, h5⟩ := h.own
  exact ⟨A, c, h1.cell 2, (RowC.own mrCells_length (by decide) h2).2, h.rise, by have := h.lens.1; omega⟩
theorem len_m (h : LogAt P l f dir rs fs w) : Calls Tryz.prog 15 #[.pointer (some ⟨l, 0, none⟩)] w fun e w' => e = .returned (.int .i64 (rs.length : Int)) ∧ w = w' := by
  obtain ⟨A, c, ht⟩ := h.tb
  have HL := len_any ht
  clear h ht
  go_enter Tryz.func15, Tryz.ntmps15
  go_wp2_with (go_at_call 49; refine HL.mono ?_; rintro e w' ⟨rfl, rfl⟩)
  go_ret
  exact ⟨rfl, rfl⟩
def lkE (o : Option Mr) : Int := match o with | some _ => 0 | none => 91
def lkB (o : Option Mr) : List UInt8 := match o with | some r => r.b | none => []
theorem lk_mem {t : Int} {r : Mr} (h : lkI rs t = some r) : r ∈ rs ∧ r.id = t := by
  unfold lkI at h
  exact ⟨List.mem_of_find?_eq_some h, by simpa using List.find?_some h⟩
theorem lk_has {t : Int} : hasI rs t = (lkI rs t).isSome := by
  unfold hasI lkI
  cases h : rs.find? (fun r => decide (r.id = t)) with
  | none =>
    rw [List.find?_eq_none] at h
    rw [List.any_eq_false.2 h]; rfl
  | some r =>
    rw [List.any_eq_true.2 ⟨r, List.mem_of_find?_eq_some h, List.find?_some h⟩]; rfl
theorem get_m (h : LogAt P l f dir rs fs w) (t : Int) : Calls Tryz.prog 17 #[.pointer (some ⟨l, 0, none⟩), .int .i64 t] w (ReadPost (lkE (lkI rs t)) (lkB (lkI rs t)) w) := by
  obtain ⟨A, c, ht⟩ := h.tb
  have HG := get_at ht t
  rw [lk_has] at HG
  cases hlk : lkI rs t with
  | none =>
    rw [hlk, Option.isSome_none] at HG
    clear h ht hlk
    go_enter Tryz.func17, Tryz.ntmps17
    go_wp2_with (go_at_call 38; go_loud (refine HG.mono ?_; rintro e w1 ⟨⟨x, y, z, hv, rfl⟩, hb⟩; have HB := Lib.hid hb; injection hv with hv; simp only [Array.mk.injEq, List.cons.injEq, and_true] at hv; obtain ⟨rfl, rfl, rfl⟩ := hv; clear hb))
    go_ret2
    exact ⟨none, 0, 0, rfl, Buf.nil _ _ (by simpa using Nat.le_succ_of_le HB.out.size), HB.out.alloc HB.out.size _⟩
  | some r =>
    obtain ⟨hm, hid⟩ := lk_mem hlk
    obtain ⟨hby, _⟩ := h.bytes r hm
    have hbl := h.blen r hm
    rw [hlk, Option.isSome_some] at HG
    have HBY := Lib.hid hby
    clear h ht hlk hm hby
    go_enter Tryz.func17, Tryz.ntmps17
    go_wp2_with (first
      | (go_at_call 38; go_loud (refine HG.mono ?_; rintro e w1 ⟨⟨x, y, z, hv, rfl⟩, hb⟩; have HB := Lib.hid hb; injection hv with hv; simp only [Array.mk.injEq, List.cons.injEq, and_true] at hv; obtain ⟨rfl, rfl, rfl⟩ := hv; clear hb))
      | (go_at_call 43; go_loud (refine (clone_any r.b r.b.length r.c r.A _ rfl (by omega) _ (Nat.le_refl _) (ml_bytes HBY.out (HB.out.alloc HB.out.size _))).mono ?_; rintro e w2 ⟨A2, c2, rfl, hb2, hl2⟩; have HB2 := Lib.hid hb2; have HL2 := Lib.hid hl2; clear hb2 hl2)))
    go_ret2
    have hal := HB.out.alloc HB.out.size (.cells #[.slice r.A r.b.length r.c, .bool r.fo, .bool r.si] 71)
    exact ⟨A2, r.b.length, c2, rfl, HB2.out.more hal.size, hal.trans (HL2.out.mono hal.size)⟩
end
end Go.Proofs.YtnkhgajghfonhaaGreatDoor

/- metalog: Put where nothing is laid. -/
namespace Go.Proofs.YtnkhgajghfonhaaGreatDoor
open Go Go.ChangeShapes Go.WideShapes Go.ChangeAt Go.RowKit Go.ChangeMaps Go.MapKept
set_option linter.unusedVariables false
set_option linter.unusedSimpArgs false

section
variable {P S : Nat → Prop} {l f : Nat} {dir : Nm} {rs : List Mr} {fs : List Int} {w w' : World}
theorem put_arg (t : Int) (ht : ¬ (0 ≤ t ∧ t ≤ 1099511627776)) (v : Value) : Calls Tryz.prog 12 #[.pointer (some ⟨l, 0, none⟩), .int .i64 t, v] w fun e w' => e = .returned (.int .i64 2) ∧ w = w' := by
  by_cases h0 : t < 0
  · go_enter Tryz.func12, Tryz.ntmps12
    go_wp2
    go_ret
    exact ⟨rfl, rfl⟩
  · have h1 : 1099511627776 < t := by omega
    have h2 : ¬ t ≤ 1099511627776 := by omega
    clear ht
    go_enter Tryz.func12, Tryz.ntmps12
    go_wp2
    go_ret
    exact ⟨rfl, rfl⟩
theorem put_old (h : LogAt P l f dir rs fs w) (t : Int) (h0 : 0 ≤ t) (h1 : t ≤ 1099511627776) {r : Mr} (hlk : lkI rs t = some r) (A : Option Addr) (n c : Nat) (b : List UInt8) (hn : n = b.length) (hb : BytesAt w w.heap.size A b) :
    Calls Tryz.prog 12 #[.pointer (some ⟨l, 0, none⟩), .int .i64 t, .slice A n c] w fun e w' => e = .returned (.int .i64 (if r.b = b then 0 else 90)) ∧ Below w.heap.size w w' := by
  obtain ⟨A1, c1, ht⟩ := h.tb
  have HG := get_at ht t
  rw [lk_has] at HG
  obtain ⟨hm, hid⟩ := lk_mem hlk
  obtain ⟨hby, _⟩ := h.bytes r hm
  rw [hlk, Option.isSome_some] at HG
  have HBY := Lib.hid hby
  have HB2 := Lib.hid hb
  have HN := Lib.hid hn
  have g1 : ¬ t < 0 := by omega
  have g2 : ¬ 1099511627776 < t := by omega
  have HEQ := Lib.hid (fun (W : World) (hw : Below w.heap.size w W) => Tryz.bytes_Equal_strs (.slice r.A r.b.length r.c) (.slice A n c) (txt r.b) (txt b) W (string_of_bytes r.A r.b.length r.c r.b W rfl (ml_bytes hby hw)) (string_of_bytes A n c b W hn (ml_bytes hb hw)))
  clear h ht hlk hm hby hb hn
  by_cases he : r.b = b
  · have he1 : ((txt r.b).toList == (txt b).toList) = true := str_eq (by rw [he])
    rw [if_pos he]
    rw [he1] at HEQ
    clear he he1
    go_enter Tryz.func12, Tryz.ntmps12
    go_wp2_with (first
      | (go_at_call 38; go_loud (refine HG.mono ?_; rintro e w1 ⟨⟨x, y, z, hv, rfl⟩, hb⟩; have HB := Lib.hid hb; injection hv with hv; simp only [Array.mk.injEq, List.cons.injEq, and_true] at hv; obtain ⟨rfl, rfl, rfl⟩ := hv; clear hb))
      | (go_at_call 39; go_loud (refine (HEQ.out _ (HB.out.alloc HB.out.size _)).mono ?_; rintro e w2 ⟨rfl, rfl⟩)))
    go_ret
    exact ⟨rfl, HB.out.alloc HB.out.size _⟩
  · have he1 : ((txt r.b).toList == (txt b).toList) = false := str_ne (fun e => he (by have := congrArg (fun s : ByteArray => s.data.toList) e; simpa [txt] using this))
    rw [if_neg he]
    rw [he1] at HEQ
    clear he he1
    go_enter Tryz.func12, Tryz.ntmps12
    go_wp2_with (first
      | (go_at_call 38; go_loud (refine HG.mono ?_; rintro e w1 ⟨⟨x, y, z, hv, rfl⟩, hb⟩; have HB := Lib.hid hb; injection hv with hv; simp only [Array.mk.injEq, List.cons.injEq, and_true] at hv; obtain ⟨rfl, rfl, rfl⟩ := hv; clear hb))
      | (go_at_call 39; go_loud (refine (HEQ.out _ (HB.out.alloc HB.out.size _)).mono ?_; rintro e w2 ⟨rfl, rfl⟩)))
    go_ret
    exact ⟨rfl, HB.out.alloc HB.out.size _⟩
end
end Go.Proofs.YtnkhgajghfonhaaGreatDoor

/- metalog: Put of an entry that isn't there. -/
namespace Go.Proofs.YtnkhgajghfonhaaGreatDoor
open Go Go.ChangeShapes Go.WideShapes Go.ChangeAt Go.RowKit Go.ChangeMaps Go.MapKept
set_option linter.unusedVariables false
set_option linter.unusedSimpArgs false

/-- A file system lies on while kept blocks turn; new blocks may be kept from now on. -/
theorem Rep.kept_more {K Kq S : Nat → Prop} {B f : Nat} {s : Fs} {w w' : World} (h : Rep K B f s w) (k : Ch S w w') (hS : ∀ i, S i → Kq i) (hq : ∀ i, Kq i → K i ∨ (w.heap.size ≤ i ∧ i < w'.heap.size)) : Rep Kq B f s w' := by
  obtain ⟨V, hV⟩ : ∃ V : World, V = { w' with heap := w.heap ++ w'.heap.extract w.heap.size w'.heap.size } := ⟨_, rfl⟩
  have hsz : V.heap.size = w'.heap.size := by
    have := k.size
    rw [hV]
    simp only [Array.size_append, Array.size_extract, Nat.min_self]
    omega
  have hlo : ∀ i, i < w.heap.size → V.heap[i]? = w.heap[i]? := fun i hi => by rw [hV]; exact Array.getElem?_append_left hi
  have hhi : ∀ i, w.heap.size ≤ i → V.heap[i]? = w'.heap[i]? := fun i hi => by
    rw [hV]
    show (w.heap ++ w'.heap.extract w.heap.size w'.heap.size)[i]? = _
    rw [Array.getElem?_append_right hi, Array.getElem?_extract]
    have e : w.heap.size + (i - w.heap.size) = i := by omega
    split
    · rw [e]
    · rename_i hn
      rw [Nat.min_self] at hn
      exact (Array.getElem?_eq_none (by omega)).symm
  have k1 : Ch (fun _ => False) w V := ⟨by rw [hV]; exact k.os, by rw [hV]; exact k.tape, by rw [hV]; exact k.output, by rw [hsz]; exact k.size, fun i hi _ => hlo i hi⟩
  have k2 : Ch S V w' := ⟨by rw [hV], by rw [hV], by rw [hV], by rw [hsz]; exact Nat.le_refl _, fun i hi hn => by
    by_cases hw : i < w.heap.size
    · rw [hlo i hw]; exact k.block i hw hn
    · rw [hhi i (by omega)]⟩
  exact (h.more k1 (fun i hi => by rw [hsz]; exact hq i hi)).kept k2 (fun i _ hi => hS i hi)
/-- A log and its file system: Q are the caller's own blocks. -/
def LS (Q : Nat → Prop) (B l f : Nat) (dir : Nm) (rs : List Mr) (fs : List Int) (s : Fs) (w : World) : Prop :=
  ∃ P, LogAt P l f dir rs fs w ∧ Rep (fun i => Q i ∨ P i) B f s w ∧ ∀ i, P i → ¬ Q i ∧ B ≤ i
theorem BytesAt.slice {w : World} {B : Nat} {a : Addr} {b : List UInt8} (h : BytesAt w B (some a) b) : True := trivial
theorem rise_snoc {rs : List Mr} {r : Mr} (h : Rise rs) (hat : atI rs r.id = rs.length) : Rise (rs ++ [r]) := by
  have hA := h.at_ r.id
  rw [hat] at hA
  intro i j hi hj hij
  rw [List.length_append, List.length_singleton] at hi hj
  rw [List.getElem_append_left (show i < rs.length by omega)]
  by_cases e : j < rs.length
  · rw [List.getElem_append_left e]
    exact h i j (by omega) e hij
  · obtain rfl : j = rs.length := by omega
    rw [List.getElem_concat_length rfl]
    exact hA.lt i (by omega) (by omega)
/-- What a Put that laid a file leaves of the log. -/
theorem log_new {P : Nat → Prop} {l f : Nat} {dir : Nm} {rs : List Mr} {fs : List Int} {V4 V5 w6 : World} {b : List UInt8} {A1 : Option Addr} {c1 : Nat} {t : Int} {A2 A3 : Option Addr} {c2 c3 : Nat} {e : Ending}
    (h : LogAt P l f dir rs fs V4) (hb : Buf V4.heap.size A1 b.length c1 b V5) (hl : Below V4.heap.size V4 V5) (hc : Cells V4 l #[adr f, .string (txt dir), .slice A2 rs.length c2, .slice A3 fs.length c3] 66)
    (h3 : V4.ownsRow 0 2 1 (.slice A3 fs.length c3) fs.length (ints fs)) (h2 : V4.ownsRow 0 123 4 (.slice A2 rs.length c2) rs.length (rs.flatMap mrCells)) (h4 : ∀ k, (Value.slice A2 0 0).ownBlock = some k → P k) (h5 : ∀ k, (Value.slice A3 0 0).ownBlock = some k → P k)
    (hs : SetPost 0 l 2 #[adr f, .string (txt dir), .slice A2 rs.length c2, .slice A3 fs.length c3] 66 A2 (rs ++ [⟨t, b, false, true, A1, c1⟩]) V5 e w6) (h0 : 0 ≤ t) (h1 : t ≤ 1099511627776) (hat : atI rs t = rs.length) (hbl : b.length ≤ 16777208) (hlen : rs.length ≤ 999999970) :
    LogAt (fun i => P i ∨ (V4.heap.size ≤ i ∧ i < w6.heap.size)) l f dir (rs ++ [⟨t, b, false, true, A1, c1⟩]) fs w6 := by
  obtain ⟨A', c', _, s1, s2, s3, s4⟩ := hs
  have hc5 := hc.ch (chb hl) (fun h => h)
  have h25 := own_below h2 hl
  have h35 := own_below h3 hl
  have hrow : ∀ k, (Value.slice A2 0 0).ownBlock = some k → ∃ d, Cells V5 k d 123 := fun k hk => by
    obtain ⟨d, hd, _⟩ := own_cells h25 (b := k) (by cases A2 <;> exact hk)
    exact ⟨d, hd⟩
  have hby : ∀ k, (∃ c z, V5.heap[k]? = some (.cells c 5 z)) → ¬ (k = l ∨ (Value.slice A2 0 0).ownBlock = some k) := fun k ⟨c, z, hk⟩ hn => by
    rcases hn with rfl | hn
    · have e := Option.some.inj (hk.symm.trans hc5)
      injection e with _ e2
      exact absurd e2 (by decide)
    · obtain ⟨d, hd⟩ := hrow k hn
      have e := Option.some.inj (hk.symm.trans hd)
      injection e with _ e2
      exact absurd e2 (by decide)
  refine ⟨⟨A', c', A3, c3, ?_, s2, ?_, fun k hk => ?_, fun k hk => .inl (h5 k hk)⟩, .inl h.pl, fun r hr => ?_, rise_snoc h.rise hat, fun r hr => ?_, h.fids, fun r hr => ?_, ⟨?_, h.lens.2⟩, fun k hk => ?_⟩
  · simpa using s1
  · exact own_ch h35 s3 (fun k hk hn => by
      obtain ⟨d, hd, _⟩ := own_cells h35 hk
      rcases hn with rfl | hn
      · exact (hd.ne hc5 (by decide)) rfl
      · obtain ⟨d2, hd2⟩ := hrow k hn
        exact (hd.ne hd2 (by decide)) rfl)
  · have hk2 : k < w6.heap.size := by
      obtain ⟨d, hd, _⟩ := own_cells s2 (b := k) (by cases A' <;> exact hk)
      exact hd.lt
    rcases s4 k hk with h6 | h6
    · exact .inl (h4 k h6)
    · exact .inr ⟨Nat.le_trans hl.size h6, hk2⟩
  · rcases List.mem_append.1 hr with hr | hr
    · obtain ⟨b1, b2⟩ := h.bytes r hr
      have b3 : ∀ a, r.A = some a → ∃ c z, V5.heap[a.block]? = some (.cells c 5 z) := fun a ha => by
        obtain ⟨c, z, hcz⟩ := (b2 a ha).2
        exact ⟨c, z, (hl.block _ (Array.getElem?_eq_some_iff.1 hcz).1).trans hcz⟩
      refine ⟨(ml_bytes b1 hl).chK (P := fun k => ∃ c z, V5.heap[k]? = some (.cells c 5 z)) b3 s3 hby, fun a ha => ⟨.inl (b2 a ha).1, ?_⟩⟩
      obtain ⟨c, z, hcz⟩ := b3 a ha
      exact ⟨c, z, (s3.block _ (Array.getElem?_eq_some_iff.1 hcz).1 (hby _ (b3 a ha))).trans hcz⟩
    · obtain rfl := List.mem_singleton.1 hr
      have hcb : ∀ a, A1 = some a → ∃ d, Cells V5 a.block d 5 ∧ V4.heap.size ≤ a.block := fun a ha => by
        subst ha
        exact own_cells hb.2.2 rfl
      refine ⟨hb.bytes.chK (P := fun k => ∃ c z, V5.heap[k]? = some (.cells c 5 z)) (fun a ha => by obtain ⟨d, hd, _⟩ := hcb a ha; exact ⟨d, _, hd⟩) s3 hby, fun a ha => ?_⟩
      obtain ⟨d, hd, hV⟩ := hcb a ha
      have hd6 : w6.heap[a.block]? = some (.cells d 5 (0, 0)) := (s3.block _ hd.lt (hby _ ⟨d, _, hd⟩)).trans hd
      exact ⟨.inr ⟨hV, Nat.lt_of_lt_of_le hd.lt s3.size⟩, d, _, hd6⟩
  · rcases List.mem_append.1 hr with hr | hr
    · exact h.ids r hr
    · obtain rfl := List.mem_singleton.1 hr
      exact ⟨h0, by show t ≤ _; omega⟩
  · rcases List.mem_append.1 hr with hr | hr
    · exact h.blen r hr
    · obtain rfl := List.mem_singleton.1 hr
      exact hbl
  · rw [List.length_append, List.length_singleton]; omega
  · rcases hk with hk | hk
    · exact Nat.lt_of_lt_of_le (h.lt k hk) (Nat.le_trans hl.size s3.size)
    · exact hk.2
section
variable {Q : Nat → Prop} {B l f : Nat} {dir : Nm} {rs : List Mr} {fs : List Int} {s : Fs} {w : World}
def PutPost (Q : Nat → Prop) (B l f : Nat) (dir : Nm) (rs : List Mr) (fs : List Int) (s : Fs) (t : Int) (b : List UInt8) (w : World) (e : Ending) (w' : World) : Prop :=
  ∃ x rs', s.file x = none ∧ e = .returned (.int .i64 (rawR s dir (bN t) (fr b) x).1) ∧ ((rawR s dir (bN t) (fr b) x).1 = 0 → ∃ A c, rs' = rs ++ [⟨t, b, false, true, A, c⟩]) ∧ ((rawR s dir (bN t) (fr b) x).1 ≠ 0 → rs' = rs) ∧
    LS Q B l f dir rs' fs (rawR s dir (bN t) (fr b) x).2 w' ∧ Turn Q B w w'
set_option maxRecDepth 100000 in
set_option maxHeartbeats 4000000 in
theorem put_new {M : Nat} (h : LS Q B l f dir rs fs s w) (wf : WfK M s) (hM : M + 6 ≤ 1000000) (hBw : B ≤ w.heap.size) (hT : Tab B w) (t : Int) (h0 : 0 ≤ t) (h1 : t ≤ 1099511627776) (hlk : lkI rs t = none) (hat : atI rs t = rs.length) (hrl : rs.length ≤ 999999970)
    (a : Addr) (n c : Nat) (b : List UInt8) (hn : n = b.length) (hbl : b.length ≤ 16777208) (hb : BytesAt w w.heap.size (some a) b) (haQ : Q a.block) :
    Calls Tryz.prog 12 #[.pointer (some ⟨l, 0, none⟩), .int .i64 t, .slice (some a) n c] w (PutPost Q B l f dir rs fs s t b w) := by
  obtain ⟨P, hlog, hrep, hP⟩ := h
  obtain ⟨A1, c1, ht⟩ := hlog.tb
  have HG := get_at ht t
  rw [lk_has, hlk, Option.isSome_none] at HG
  have HLOG := Lib.hid hlog
  have HREP := Lib.hid hrep
  have HP := Lib.hid hP
  have HWF := Lib.hid wf
  have HTAB := Lib.hid hT
  have HB2 := Lib.hid hb
  have HN := Lib.hid hn
  have HAT := Lib.hid hat
  obtain ⟨A2, c2, A3, c3, q1, q2, q3, q4, q5⟩ := hlog.own
  have HQ1 := Lib.hid q1
  have HQ2 := Lib.hid q2
  have HQ3 := Lib.hid q3
  have HQ4 := Lib.hid q4
  have HQ5 := Lib.hid q5
  have HIN := Lib.hid (show in64 t from ⟨by omega, by omega⟩)
  have HH := Lib.hid (show hasI rs t = false by rw [lk_has, hlk]; rfl)
  have g1 : ¬ t < 0 := by omega
  have g2 : ¬ 1099511627776 < t := by omega
  clear hlog hrep hP wf hT hb hn hat ht hlk q1 q2 q3 q4 q5
  go_enter Tryz.func12, Tryz.ntmps12
  go_wp2_with (go_at_call 38; go_loud (refine HG.mono ?_; rintro e w1 ⟨⟨x, y, z, hv, rfl⟩, hb⟩; have HB := Lib.hid hb; injection hv with hv; simp only [Array.mk.injEq, List.cons.injEq, and_true] at hv; obtain ⟨rfl, rfl, rfl⟩ := hv; clear hb))
  obtain ⟨V2, hV2⟩ : ∃ V2, w1.alloc (.cells #[.slice none 0 0, .bool false, .bool false] 71) = V2 := ⟨_, rfl⟩
  have hbw : Below w.heap.size w V2 := by rw [← hV2]; exact HB.out.alloc HB.out.size _
  rw [hV2]
  clear hV2
  have hls : 2 + (txt (hexL t)).size ≤ 9223372036854775807 := by rw [txt_size, hexL_length]; decide
  have hl0 : w.cell? ⟨l, 0, none⟩ = some (adr f) := HQ1.out.cell 0
  have hl1 : w.cell? ⟨l, 1, none⟩ = some (.string (txt dir)) := HQ1.out.cell 1
  have hlw := HQ1.out.lt
  have hS : V2.drew.cell? ⟨l, 0, none⟩ = some (adr f) ∧ V2.drew.cell? ⟨l, 1, none⟩ = some (.string (txt dir)) := ⟨cell_later hbw.drew hl0, cell_later hbw.drew hl1⟩
  refine wp_mono ?_ noPanic_le
  refine held_begin 14 (fun W => W.cell? ⟨l, 0, none⟩ = some (adr f) ∧ W.cell? ⟨l, 1, none⟩ = some (.string (txt dir))) rfl (by kernel_rfl) ?_
  refine held_take (i := 0) (t := 32) (v := (.pointer (some ⟨l, 0, none⟩))) (fuel := 13) rfl rfl (by kernel_rfl) (by kernel_rfl) (by kernel_rfl) (fun _ _ _ h => h) (.inl ⟨rfl, fun W hW => by obtain ⟨w1, w2⟩ := hW; simp [execOp, Act.eval, go_sem, adr, w1, w2]⟩) hS ?_
  simp only [List.setIfInBounds_toArray, List.set_cons_succ, List.set_cons_zero]
  refine held_take (i := 1) (t := 33) (v := (.pointer (some ⟨l, 0, none⟩))) (fuel := 12) rfl rfl (by kernel_rfl) (by kernel_rfl) (by kernel_rfl) (fun _ _ _ h => h) (.inl ⟨rfl, fun W hW => by obtain ⟨w1, w2⟩ := hW; simp [execOp, Act.eval, go_sem, adr, w1, w2]⟩) hS ?_
  simp only [List.setIfInBounds_toArray, List.set_cons_succ, List.set_cons_zero]
  refine held_take (i := 2) (t := 34) (v := (.pointer (some ⟨l, 0, none⟩))) (fuel := 11) rfl rfl (by kernel_rfl) (by kernel_rfl) (by kernel_rfl) (fun _ _ _ h => h) (.inl ⟨rfl, fun W hW => by obtain ⟨w1, w2⟩ := hW; simp [execOp, Act.eval, go_sem, adr, w1, w2]⟩) hS ?_
  simp only [List.setIfInBounds_toArray, List.set_cons_succ, List.set_cons_zero]
  refine held_take (i := 3) (t := 35) (v := (adr f)) (fuel := 10) rfl rfl (by kernel_rfl) (by kernel_rfl) (by kernel_rfl) (fun _ _ _ h => h) (.inl ⟨rfl, fun W hW => by obtain ⟨w1, w2⟩ := hW; simp [execOp, Act.eval, go_sem, adr, w1, w2]⟩) hS ?_
  simp only [List.setIfInBounds_toArray, List.set_cons_succ, List.set_cons_zero]
  refine held_take (i := 4) (t := 36) (v := (.pointer (some ⟨l, 0, none⟩))) (fuel := 9) rfl rfl (by kernel_rfl) (by kernel_rfl) (by kernel_rfl) (fun _ _ _ h => h) (.inl ⟨rfl, fun W hW => by obtain ⟨w1, w2⟩ := hW; simp [execOp, Act.eval, go_sem, adr, w1, w2]⟩) hS ?_
  simp only [List.setIfInBounds_toArray, List.set_cons_succ, List.set_cons_zero]
  refine held_take (i := 5) (t := 37) (v := (.pointer (some ⟨l, 0, none⟩))) (fuel := 8) rfl rfl (by kernel_rfl) (by kernel_rfl) (by kernel_rfl) (fun _ _ _ h => h) (.inl ⟨rfl, fun W hW => by obtain ⟨w1, w2⟩ := hW; simp [execOp, Act.eval, go_sem, adr, w1, w2]⟩) hS ?_
  simp only [List.setIfInBounds_toArray, List.set_cons_succ, List.set_cons_zero]
  refine held_take (i := 6) (t := 38) (v := (.pointer (some ⟨l, 1, none⟩))) (fuel := 7) rfl rfl (by kernel_rfl) (by kernel_rfl) (by kernel_rfl) (fun _ _ _ h => h) (.inl ⟨rfl, fun W hW => by obtain ⟨w1, w2⟩ := hW; simp [execOp, Act.eval, go_sem, adr, w1, w2]⟩) hS ?_
  simp only [List.setIfInBounds_toArray, List.set_cons_succ, List.set_cons_zero]
  refine held_take (i := 7) (t := 39) (v := (.string (txt dir))) (fuel := 6) rfl rfl (by kernel_rfl) (by kernel_rfl) (by kernel_rfl) (fun _ _ _ h => h) (.inl ⟨rfl, fun W hW => by obtain ⟨w1, w2⟩ := hW; simp [execOp, Act.eval, go_sem, adr, w1, w2]⟩) hS ?_
  simp only [List.setIfInBounds_toArray, List.set_cons_succ, List.set_cons_zero]
  refine held_take (i := 8) (t := 40) (v := (.int .i64 t)) (fuel := 5) rfl rfl (by kernel_rfl) (by kernel_rfl) (by kernel_rfl) (fun _ _ _ h => h) (.inl ⟨rfl, fun W hW => by obtain ⟨w1, w2⟩ := hW; simp [execOp, Act.eval, go_sem, adr, w1, w2]⟩) hS ?_
  simp only [List.setIfInBounds_toArray, List.set_cons_succ, List.set_cons_zero]
  refine held_take (i := 11) (t := 43) (v := (.slice (some a) n c)) (fuel := 4) rfl rfl (by kernel_rfl) (by kernel_rfl) (by kernel_rfl) (fun _ _ _ h => h) (.inl ⟨rfl, fun W hW => by obtain ⟨w1, w2⟩ := hW; simp [execOp, Act.eval, go_sem, adr, w1, w2]⟩) hS ?_
  simp only [List.setIfInBounds_toArray, List.set_cons_succ, List.set_cons_zero]
  refine held_call (i := 9) rfl (by kernel_rfl) (by kernel_rfl) ?_
  simp [Oper.wp, execOp, Act.eval, Act.put, go_sem]
  refine (hex_any t HIN.out V2.drew (HTAB.out.below (hbw.drew.mono hBw)) (Nat.le_trans hBw hbw.size)).mono ?_
  rintro e V3 ⟨rfl, hb3⟩
  replace hb3 := below_undrew hb3
  have hbw3 : Below w.heap.size w V3 := hbw.trans (hb3.mono hbw.size)
  have hS : V3.cell? ⟨l, 0, none⟩ = some (adr f) ∧ V3.cell? ⟨l, 1, none⟩ = some (.string (txt dir)) := ⟨cell_later hbw3 hl0, cell_later hbw3 hl1⟩
  refine ⟨hS, ?_⟩
  try simp only [List.setIfInBounds_toArray, List.set_cons_succ, List.set_cons_zero]
  refine held_take (i := 10) (t := 42) (v := (.string (txt (bN t)))) (fuel := 2) rfl rfl (by kernel_rfl) (by kernel_rfl) (by kernel_rfl) (fun _ _ _ h => h) (.inl ⟨rfl, fun W hW => by obtain ⟨w1, w2⟩ := hW; have hfn := bN_txt t; simp [execOp, Act.eval, go_sem, hls, hfn]⟩) hS ?_
  simp only [List.setIfInBounds_toArray, List.set_cons_succ, List.set_cons_zero]
  refine held_call (i := 12) rfl (by kernel_rfl) (by kernel_rfl) ?_
  simp [Oper.wp, execOp, Act.eval, Act.put, go_sem, adr]
  refine (put_any (HREP.out.keep hbw3) HWF.out hM (Nat.le_trans hBw hbw3.size) dir (bN t) n c a b HN.out (by rw [HN.out]; exact hbl) (ml_bytes HB2.out hbw3)).mono ?_
  rintro e V4 ⟨y, hy, rfl, hr4, ht4⟩
  have hlog4 := (HLOG.out.below hbw3).kept ht4.ch (fun i hi hn => hn (.inl (.inr hi)))
  have hl4 : V4.heap[l]? = V3.heap[l]? := ht4.ch.block l (Nat.lt_of_lt_of_le hlw hbw3.size) (fun hn => hn (.inl (.inr HLOG.out.pl)))
  have hS : V4.cell? ⟨l, 0, none⟩ = some (adr f) ∧ V4.cell? ⟨l, 1, none⟩ = some (.string (txt dir)) := ⟨(World.cell?_of_block (a := ⟨l, 0, none⟩) hl4).trans hS.1, (World.cell?_of_block (a := ⟨l, 1, none⟩) hl4).trans hS.2⟩
  refine ⟨hS, ?_⟩
  try simp only [List.setIfInBounds_toArray, List.set_cons_succ, List.set_cons_zero]
  refine held_take (i := 13) (t := 9) (v := (.int .i64 (rawR s dir (bN t) (fr b) y).1)) (fuel := 0) rfl rfl (by kernel_rfl) (by kernel_rfl) (by kernel_rfl) (fun _ _ _ h => h) (.inl ⟨rfl, fun W hW => by obtain ⟨w1, w2⟩ := hW; simp [execOp, Act.eval, go_sem, adr, w1, w2]⟩) hS ?_
  simp only [List.setIfInBounds_toArray, List.set_cons_succ, List.set_cons_zero]
  refine wpAnyH_done (by kernel_rfl) ?_ 0
  unfold noPanic
  have hT4 : Turn (fun i => Q i ∨ P i) B w V4 := (Turn.of hbw3 hBw).trans ht4.kept
  have HY := Lib.hid hy
  have HLOG4 := Lib.hid hlog4
  have HR4 := Lib.hid hr4.kept_
  have HT4 := Lib.hid hT4
  have HBW3 := Lib.hid hbw3
  have HB4 := Lib.hid ((ml_bytes HB2.out hbw3).chK (P := Q) (fun a' h => by injection h with h; subst h; exact haQ) ht4.ch (fun i hi hn => hn (.inl (.inl hi))))
  obtain ⟨R, hR⟩ : ∃ R, rawR s dir (bN t) (fr b) y = R := ⟨_, rfl⟩
  have HR := Lib.hid hR
  rw [hR] at HR4
  simp only [hR]
  obtain ⟨E, s2⟩ := R
  clear hS hy hlog4 hr4 hT4 hR hl4 hbw3 ht4 hl0 hl1 hb3 hbw
  dsimp only at HR4 ⊢
  by_cases hE : E = 0
  · subst hE
    go_wp2
    refine wp_mono ?_ noPanic_le
    refine held_begin 8 (fun _ => True) rfl (by kernel_rfl) ?_
    refine held_take (i := 0) (t := 48) (v := (.pointer (some ⟨l, 0, none⟩))) (fuel := 7) rfl rfl (by kernel_rfl) (by kernel_rfl) (by kernel_rfl) (fun _ _ _ h => h) (.inl ⟨rfl, fun W hW => by simp [execOp, Act.eval, go_sem]⟩) trivial ?_
    simp only [List.setIfInBounds_toArray, List.set_cons_succ, List.set_cons_zero]
    refine held_take (i := 1) (t := 49) (v := (.pointer (some ⟨l, 0, none⟩))) (fuel := 6) rfl rfl (by kernel_rfl) (by kernel_rfl) (by kernel_rfl) (fun _ _ _ h => h) (.inl ⟨rfl, fun W hW => by simp [execOp, Act.eval, go_sem]⟩) trivial ?_
    simp only [List.setIfInBounds_toArray, List.set_cons_succ, List.set_cons_zero]
    refine held_take (i := 2) (t := 50) (v := (.pointer (some ⟨l, 2, none⟩))) (fuel := 5) rfl rfl (by kernel_rfl) (by kernel_rfl) (by kernel_rfl) (fun _ _ _ h => h) (.inl ⟨rfl, fun W hW => by simp [execOp, Act.eval, go_sem]⟩) trivial ?_
    simp only [List.setIfInBounds_toArray, List.set_cons_succ, List.set_cons_zero]
    refine held_take (i := 3) (t := 51) (v := (.int .i64 t)) (fuel := 4) rfl rfl (by kernel_rfl) (by kernel_rfl) (by kernel_rfl) (fun _ _ _ h => h) (.inl ⟨rfl, fun W hW => by simp [execOp, Act.eval, go_sem]⟩) trivial ?_
    simp only [List.setIfInBounds_toArray, List.set_cons_succ, List.set_cons_zero]
    refine held_take (i := 4) (t := 52) (v := (.slice (some a) n c)) (fuel := 3) rfl rfl (by kernel_rfl) (by kernel_rfl) (by kernel_rfl) (fun _ _ _ h => h) (.inl ⟨rfl, fun W hW => by simp [execOp, Act.eval, go_sem]⟩) trivial ?_
    simp only [List.setIfInBounds_toArray, List.set_cons_succ, List.set_cons_zero]
    refine held_call (i := 5) rfl (by kernel_rfl) (by kernel_rfl) ?_
    simp [Oper.wp, execOp, Act.eval, Act.put, go_sem]
    refine (clone_any b n c (some a) V4.drew HN.out (by have := HN.out; omega) V4.heap.size (Nat.le_refl _) HB4.out).mono ?_
    rintro e V5 ⟨A1, c1, rfl, hb5, hl5⟩
    replace hl5 := below_undrew hl5
    try simp only [List.setIfInBounds_toArray, List.set_cons_succ, List.set_cons_zero]
    refine held_take (i := 6) (t := 54) (v := (.agg #[.slice A1 b.length c1, .bool false, .bool true])) (fuel := 1) rfl rfl (by kernel_rfl) (by kernel_rfl) (by kernel_rfl) (fun _ _ _ h => h) (.inl ⟨rfl, fun W hW => by simp [execOp, Act.eval, go_sem]⟩) trivial ?_
    simp only [List.setIfInBounds_toArray, List.set_cons_succ, List.set_cons_zero]
    refine held_call (i := 7) rfl (by kernel_rfl) (by kernel_rfl) ?_
    simp [Oper.wp, execOp, Act.eval, Act.put, go_sem]
    obtain ⟨A2, c2, A3, c3, q1, q2, q3, q4, q5⟩ := HLOG4.out.own
    refine (set_new (r := ⟨t, b, false, true, A1, c1⟩) (q1.ch (chb hl5) (fun h => h)) rfl (by decide) (Nat.zero_le _) (own_below q2 hl5) HLOG4.out.rise (by omega) HH.out HAT.out).mono ?_
    intro e w6 hs
    have hlog6 := log_new HLOG4.out hb5 hl5 q1 q3 q2 q4 q5 hs h0 h1 HAT.out hbl hrl
    obtain ⟨A', c', rfl, s1, s2, s3, s4⟩ := hs
    dsimp only
    refine wpAnyH_done (by kernel_rfl) ?_ 0
    unfold noPanic
    have hBV : B ≤ V4.heap.size := Nat.le_trans hBw HT4.out.size
    have hch6 : Ch (fun k => k = l ∨ (Value.slice A2 0 0).ownBlock = some k) V4 w6 := ((chb hl5).mono (fun k _ h => h.elim)).then_ s3 (fun i _ e => e)
    have hSP : ∀ k, (k = l ∨ (Value.slice A2 0 0).ownBlock = some k) → P k := fun k hk => hk.elim (fun e => by subst e; exact HLOG4.out.pl) (q4 k)
    have hrep6 := HR4.out.kept_more (Kq := fun i => Q i ∨ (P i ∨ (V4.heap.size ≤ i ∧ i < w6.heap.size))) hch6 (fun i hi => .inr (.inl (hSP i hi))) (fun i hi => by
      rcases hi with h | h | h
      · exact .inl (.inl h)
      · exact .inl (.inr h)
      · exact .inr h)
    have hQV : ∀ i, Q i → i < V4.heap.size := fun i hi => by obtain ⟨L, hL⟩ := HR4.out; exact hL.kold i (.inl hi)
    have ht6 : Turn Q B w w6 := (HT4.out.fewer (fun i hi => .inl hi)).trans (hch6.toTurn (fun k _ hk => ⟨(HP.out k (hSP k hk)).2, (HP.out k (hSP k hk)).1⟩) hBV)
    have HF := Lib.hid (show PutPost Q B l f dir rs fs s t b w (.returned (.int .i64 0)) w6 from ⟨y, rs ++ [⟨t, b, false, true, A1, c1⟩], HY.out, by rw [HR.out], fun _ => ⟨A1, c1, rfl⟩, fun h => absurd (by rw [HR.out]) h, ⟨_, hlog6, by rw [HR.out]; exact hrep6, fun i hi => hi.elim (HP.out i) (fun h => ⟨fun hq => by have := hQV i hq; omega, by omega⟩)⟩, ht6⟩)
    clear hch6 hSP hrep6 hQV ht6 hlog6 s1 s2 s3 s4 q1 q2 q3 q4 q5
    go_wp2
    go_ret
    exact HF.out
  · have hE1 : (E != 0) = true := by rw [bne_iff_ne]; exact hE
    go_wp2
    go_ret
    refine ⟨y, rs, HY.out, by rw [HR.out]; rfl, fun h => absurd (by rw [HR.out] at h; exact h) hE, fun _ => rfl, ⟨P, HLOG4.out, by rw [HR.out]; exact HR4.out, HP.out⟩, HT4.out.fewer (fun i hi => .inl hi)⟩
end
end Go.Proofs.YtnkhgajghfonhaaGreatDoor
