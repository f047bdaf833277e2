/- The walks of items, for each kind of item but rows. -/
import Derived.Test.YtkpajmgbiepmbaaCodVal
namespace Go.Proofs.Ytkpajmgbiepmbaa
open Go.ChangeShapes Go.WideShapes Go.ChangeAt Go.RowKit
open Go.Lib (byteCells byteCells_length byteCells_append strCells)
set_option linter.unusedVariables false

theorem rvalue_walk2 (r : Nat) (l : List UInt8) (w : World) (h : Rd w r l) (hl : l.length ≤ 16777216) :
    Calls Try.prog 73 #[.pointer (some ⟨r, 0, none⟩)] w (RdPost r (fun v : V => .agg #[.int .i64 v.k, .int .i64 v.n, .string v.s]) (rVal l) w) := rvalue_walk r l w h hl
/-- 'l = append(l, v)' of one item that has just been laid. -/
theorem append_item {α : Type} {f : α → List Value} {sz bytes : Nat} {T E : TypeId} {z : Value} (hT : Try.prog.underlying T = some (.slice E)) (hinfo : (Try.prog.info? E).map (fun i => (i.zero, i.size, i.bytes)) = some (some z, sz, bytes)) (hz : z.cells.size = sz) (hsz : 0 < sz)
    (hl : ∀ a, (f a).length = sz) (h1 : ∀ a, ∀ u ∈ f a, u.oneCell' = true)
    {ops : Array Oper} {rest : List Oper} {o : Oper} {a : Act} {Q : Exit → Act → World → Prop} (hgd : o.guard = none) (s x : Operand)
    (ho : o.op = .call { callee := .builtin .append, args := #[s, x], argTypes := #[T, T] })
    (B : Nat) (A : Option Addr) (n c : Nat) (l : List α) (hs : a.eval s = .slice A n c) (w0 : World) (v : α) (hb : w0.ownsRow B E sz (.slice A n c) n (l.flatMap f)) (hB : B ≤ w0.heap.size)
    (L : Nat) (hx : a.eval x = .slice (some ⟨L, 0, none⟩) 1 1) (hL : L = w0.heap.size) (hlen : (n + 1) * bytes ≤ 140737488355328) (hn : n + 1 ≤ maxLen) (cells : List Value) (hcells : cells = f v)
    (h : ∀ A' n' c' w', n' = n + 1 → w'.ownsRow B E sz (.slice A' n' c') n' ((l ++ [v]).flatMap f) → Below B w0 w' → (w0.alloc (.cells cells.toArray E)).grownBy w' (Value.ownBlock (.slice A n c)) → wpList Try.prog ops Q rest (a.put o.dst (.slice A' n' c')) w') :
    wpList Try.prog ops Q (o :: rest) a (w0.alloc (.cells cells.toArray E)) := by
  subst hL
  subst hcells
  obtain ⟨i0, hi, hz0, hz1, hz2⟩ := info_parts hinfo
  have hb1 := hb.alloc (.cells (f v).toArray E)
  refine wpList_append_own_at _ hgd s x T ho B E i0 _ sz bytes hT hi hz0 hz1 hz2 hz hsz (.slice A n c) n (l.flatMap f) hs hb1 ⟨w0.heap.size, 0, none⟩ 1 1 (f v) hx (by rw [hl, Nat.one_mul])
    (new_cells w0 _ _) (h1 v) hn hlen (by simp; omega) ?_
  intro v' w' hown hg _ _
  obtain ⟨A', c', rfl⟩ := own_slice hown
  refine h A' (n + 1) c' w' rfl (by rw [List.flatMap_append]; simpa using hown) ?_ hg
  exact ((Below.refl B w0).alloc hB _).grown hg (by simp; omega) (fun k e => (hb.lt k e).1)
theorem own_past {r : Nat} {w w' : World} {base : Nat} {e : TypeId} {size : Nat} {v : Value} {n : Nat} {xs : List Value} (h : w.ownsRow base e size v n xs) (hp : Past r w w') (hr : r < base) : w'.ownsRow base e size v n xs := by
  refine ⟨h.1, ?_⟩
  rcases h.2 with ⟨rfl, h0⟩ | ⟨g, cap, cur, rfl, hg, hh, rest⟩
  · exact .inl ⟨rfl, h0⟩
  · exact .inr ⟨g, cap, cur, rfl, hg, (hp.block g (Array.getElem?_eq_some_iff.1 hh).1 (by intro e; injection e with e; omega)).trans hh, rest⟩
theorem Rd.grown {r B : Nat} {w w' : World} {l : List UInt8} (h : Rd w r l) (hb : Below B w w') (hr : r < B) : Rd w' r l := by
  obtain ⟨A, c, h0, h1, h2, h3, h4⟩ := h
  exact ⟨A, c, (hb.cell (p := ⟨r, 0, none⟩) hr).trans h0, (hb.frozen (p := ⟨r, 0, none⟩) hr).trans h1, h2, h3, h4.below (hb.mono (by omega))⟩
/-- Below B nothing has turned but block r. -/
def PastB (r B : Nat) (w w' : World) : Prop := w'.os = w.os ∧ w'.tape = w.tape ∧ w'.output = w.output ∧ w.heap.size ≤ w'.heap.size ∧ ∀ k, k < B → k ≠ r → w'.heap[k]? = w.heap[k]?
theorem PastB.refl (r B : Nat) (w : World) : PastB r B w w := ⟨rfl, rfl, rfl, Nat.le_refl _, fun _ _ _ => rfl⟩
theorem PastB.past {r B : Nat} {a b c : World} (h : PastB r B a b) (k : Past r b c) (hB : B ≤ b.heap.size) : PastB r B a c :=
  ⟨k.os.trans h.1, k.tape.trans h.2.1, k.output.trans h.2.2.1, Nat.le_trans h.2.2.2.1 k.size, fun i hi hne => (k.block i (by omega) (by intro e; injection e with e; exact hne e)).trans (h.2.2.2.2 i hi hne)⟩
theorem PastB.below {r B : Nat} {a b c : World} (h : PastB r B a b) (k : Below B b c) : PastB r B a c :=
  ⟨k.os.trans h.1, k.tape.trans h.2.1, k.output.trans h.2.2.1, Nat.le_trans h.2.2.2.1 k.size, fun i hi hne => (k.block i hi).trans (h.2.2.2.2 i hi hne)⟩
theorem PastB.whole {r : Nat} {a b : World} (h : PastB r a.heap.size a b) : Past r a b := ⟨h.1, h.2.1, h.2.2.1, h.2.2.2.1, fun k hk hne => h.2.2.2.2 k hk (by intro e; exact hne (by rw [e]))⟩

/-- k items have been read: they are xs; m is left. -/
def ManyK {α : Type} (dec : List UInt8 → Option (α × List UInt8)) (n : Nat) (l : List UInt8) (k : Nat) (xs : List α) (m : List UInt8) : Prop := xs.length = k ∧ rMany dec n l = (rMany dec (n - k) m).map fun q => (xs ++ q.1, q.2)
section
variable {α : Type} {dec : List UInt8 → Option (α × List UInt8)} {n k : Nat} {l m : List UInt8} {xs : List α}
theorem ManyK.start : ManyK dec n l 0 [] l := ⟨rfl, by rw [Nat.sub_zero]; cases rMany dec n l <;> simp⟩
theorem ManyK.bad (h : ManyK dec n l k xs m) (hk : k < n) (hd : dec m = none) : rMany dec n l = none := by
  rw [h.2, show n - k = (n - k - 1) + 1 by omega, rMany_none hd]
  rfl
theorem ManyK.next {a : α} {q : List UInt8} (h : ManyK dec n l k xs m) (hk : k < n) (hd : dec m = some (a, q)) : ManyK dec n l (k + 1) (xs ++ [a]) q := by
  refine ⟨by simp [h.1], ?_⟩
  rw [h.2, show n - k = (n - (k + 1)) + 1 by omega, rMany_some hd]
  cases rMany dec (n - (k + 1)) q <;> simp
theorem ManyK.done (h : ManyK dec n l k xs m) (hk : n ≤ k) : rMany dec n l = some (xs, m) := by
  rw [h.2, show n - k = 0 by omega, rMany_zero]
  simp
end

/-- What items leaves. -/
def ItemsPost {α : Type} (r : Nat) (E : TypeId) (sz : Nat) (f : α → List Value) (o : Option (List α × List UInt8)) (w : World) (e : Ending) (w' : World) : Prop :=
  match o with
  | none => e = .panicked [gaveUp] ∧ Past r w w'
  | some p => ∃ A c, e = .returned (.slice A p.1.length c) ∧ w'.ownsRow w.heap.size E sz (.slice A p.1.length c) p.1.length (p.1.flatMap f) ∧ Rd w' r p.2 ∧ Past r w w'

theorem info_int : (Try.prog.info? 2).map (fun i => (i.zero, i.size, i.bytes)) = some (some (Value.int .i64 0), 1, 8) := by kernel_rfl
set_option maxHeartbeats 2000000 in
theorem items_int (r : Nat) (l : List UInt8) (w : World) (h : Rd w r l) (hl : l.length ≤ 16777216) :
    Calls Try.prog 81 #[.pointer (some ⟨r, 0, none⟩), .int .u64 16777216, .func (.func 57) #[] #[]] w (ItemsPost r 2 1 iCells (rList rInt 16777216 l) w) := by
  have HR := Lib.hid h
  have HNE := Lib.hid h.lt
  have hN := number_walk r l w h hl
  rcases hu : unL l with _ | ⟨n, m⟩
  · rw [hu] at hN
    rw [rList_none hu]
    have HN := Lib.hid hN
    clear hN h
    go_enter Try.func81, Try.ntmps81
    go_wp2_with (go_at_call 82; refine HN.out.mono ?_; rintro e w1 ⟨rfl, hp1⟩; have HP1 := Lib.hid hp1; clear hp1)
    exact ⟨rfl, rfl, HP1.out⟩
  · rw [hu] at hN
    have HN := Lib.hid hN
    have HML := Lib.hid (num_codec.less hu)
    by_cases hm : n ≤ 16777216
    · rw [rList_some hu hm]
      have hg1 : decide ((n : Int) ≤ 16777216) = true := decide_eq_true (by omega)
      clear hN h
      go_enter Try.func81, Try.ntmps81
      go_wp2_with (first | (go_at_call 82; refine HN.out.mono ?_; rintro e w1 ⟨rfl, hr1, hp1⟩; have HR1 := Lib.hid hr1; have HP1 := Lib.hid hp1; clear hp1 hr1) | (go_at_call 70; refine (must_ok _ _).mono ?_; rintro e w2 ⟨rfl, rfl⟩))
      clear hg1
      go_loopw [8, 17] (fun lv iv wr => ∃ (k : Nat) (xs : List Int) (q : List UInt8) (A : Option Addr) (c : Nat), k ≤ n ∧ iv = .int .u64 (k : Int) ∧ lv = .slice A k c ∧ Hid (ManyK rInt n m k xs q) ∧ Hid (q.length ≤ m.length) ∧ Hid (wr.ownsRow w.heap.size 2 1 (.slice A k c) k (xs.flatMap iCells)) ∧ Hid (Rd wr r q) ∧ Hid (PastB r w.heap.size w wr)) (fun _ iv _ => n - (intOf iv).toNat)
      case atStart => exact ⟨0, [], m, none, 0, Nat.zero_le _, rfl, rfl, Lib.hid ManyK.start, Lib.hid (Nat.le_refl _), Lib.hid (World.ownsRow_nil _ _ _ _), HR1, Lib.hid ((PastB.refl r _ w).past HP1.out (Nat.le_refl _))⟩
      case round =>
        obtain ⟨k, xs, q, A, c, hk, rfl, rfl, HM, HQ, HO, HRr, HPr⟩ := hrel
        by_cases hlt : k < n
        · have HW := integer_walk r q wr HRr.out (by have := HQ.out; have := HML.out; omega)
          have HWS := Lib.hid HPr.out.2.2.2.1
          rcases hd : rInt q with _ | ⟨a, q2⟩
          · rw [hd] at HW
            have HC := Lib.hid HW
            have HF := Lib.hid (HM.out.bad hlt hd)
            clear HW
            go_wp2_with (go_at_call 57; refine HC.out.mono ?_; rintro e w2 ⟨rfl, hp2⟩; have HP2 := Lib.hid (HPr.out.past hp2 HWS.out).whole; clear hp2)
            rw [HF.out]
            exact ⟨rfl, rfl, HP2.out⟩
          · rw [hd] at HW
            have HC := Lib.hid HW
            have HF := Lib.hid (HM.out.next hlt hd)
            have HQ2 := Lib.hid (show q2.length ≤ m.length by have h1 := int_codec.less hd; have := HQ.out; omega)
            clear HW
            go_wp2_with (first | (go_at_call 57; refine HC.out.mono ?_; rintro e w2 ⟨rfl, hr2, hp2⟩; have HR2 := Lib.hid hr2; have HO2 := Lib.hid (own_past HO.out hp2 HNE.out); have HS2 := Lib.hid (Nat.le_trans HWS.out hp2.size); have HP2 := Lib.hid (HPr.out.past hp2 HWS.out); clear hp2 hr2) | (at_builtin; go_loud (refine append_item Try.underlying36 info_int rfl (by decide) iCells_length iCells_one rfl _ _ rfl w.heap.size A k c xs rfl _ a HO2.out HS2.out _ rfl rfl (by omega) (by unfold maxLen; omega) [_] rfl ?_); intro A3 n3 c3 w3 hn3 ho3 hb3 hg3; have HO3 := Lib.hid ho3; have HR3 := Lib.hid (HR2.out.grown hb3 HNE.out); have HP3 := Lib.hid (HP2.out.below hb3); clear ho3 hb3 hg3; subst hn3))
            go_roundw
            case rel => exact ⟨k + 1, xs ++ [a], q2, A3, c3, by omega, by go_num, rfl, HF, HQ2, HO3, HR3, HP3⟩
            case measure => simp [intOf]; omega
        · have HF := Lib.hid (HM.out.done (by omega))
          have HL := Lib.hid HM.out.1
          have hkn : k = n := by omega
          subst hkn
          go_wp2
          go_ret
          rw [HF.out]
          refine ⟨A, c, ?_, ?_, HRr.out, HPr.out.whole⟩
          · rw [HL.out]; rfl
          · rw [HL.out]; exact HO.out
    · rw [rList_many hu (by omega)]
      have hg1 : decide ((n : Int) ≤ 16777216) = false := decide_eq_false (by omega)
      have hg2 : decide (n ≤ 16777216) = false := decide_eq_false hm
      clear hN h hm
      go_enter Try.func81, Try.ntmps81
      go_wp2_with (first | (go_at_call 82; refine HN.out.mono ?_; rintro e w1 ⟨rfl, hr1, hp1⟩; have HR1 := Lib.hid hr1; have HP1 := Lib.hid hp1; clear hp1 hr1) | (go_at_call 70; refine (must_no _ _).mono ?_; rintro e w2 ⟨rfl, rfl⟩))
      exact ⟨rfl, rfl, HP1.out⟩

theorem info_col : (Try.prog.info? 39).map (fun i => (i.zero, i.size, i.bytes)) = some (some (Value.agg #[.string ⟨#[]⟩, .int .i64 0]), 2, 24) := by kernel_rfl
set_option maxHeartbeats 2000000 in
theorem items_col (r : Nat) (l : List UInt8) (w : World) (h : Rd w r l) (hl : l.length ≤ 16777216) :
    Calls Try.prog 75 #[.pointer (some ⟨r, 0, none⟩), .int .u64 16777216, .func (.func 53) #[] #[]] w (ItemsPost r 39 2 cCells (rList rCol 16777216 l) w) := by
  have HR := Lib.hid h
  have HNE := Lib.hid h.lt
  have hN := number_walk r l w h hl
  rcases hu : unL l with _ | ⟨n, m⟩
  · rw [hu] at hN
    rw [rList_none hu]
    have HN := Lib.hid hN
    clear hN h
    go_enter Try.func75, Try.ntmps75
    go_wp2_with (go_at_call 82; refine HN.out.mono ?_; rintro e w1 ⟨rfl, hp1⟩; have HP1 := Lib.hid hp1; clear hp1)
    exact ⟨rfl, rfl, HP1.out⟩
  · rw [hu] at hN
    have HN := Lib.hid hN
    have HML := Lib.hid (num_codec.less hu)
    by_cases hm : n ≤ 16777216
    · rw [rList_some hu hm]
      have hg1 : decide ((n : Int) ≤ 16777216) = true := decide_eq_true (by omega)
      clear hN h
      go_enter Try.func75, Try.ntmps75
      go_wp2_with (first | (go_at_call 82; refine HN.out.mono ?_; rintro e w1 ⟨rfl, hr1, hp1⟩; have HR1 := Lib.hid hr1; have HP1 := Lib.hid hp1; clear hp1 hr1) | (go_at_call 70; refine (must_ok _ _).mono ?_; rintro e w2 ⟨rfl, rfl⟩))
      clear hg1
      go_loopw [8, 17] (fun lv iv wr => ∃ (k : Nat) (xs : List Co) (q : List UInt8) (A : Option Addr) (c : Nat), k ≤ n ∧ iv = .int .u64 (k : Int) ∧ lv = .slice A k c ∧ Hid (ManyK rCol n m k xs q) ∧ Hid (q.length ≤ m.length) ∧ Hid (wr.ownsRow w.heap.size 39 2 (.slice A k c) k (xs.flatMap cCells)) ∧ Hid (Rd wr r q) ∧ Hid (PastB r w.heap.size w wr)) (fun _ iv _ => n - (intOf iv).toNat)
      case atStart => exact ⟨0, [], m, none, 0, Nat.zero_le _, rfl, rfl, Lib.hid ManyK.start, Lib.hid (Nat.le_refl _), Lib.hid (World.ownsRow_nil _ _ _ _), HR1, Lib.hid ((PastB.refl r _ w).past HP1.out (Nat.le_refl _))⟩
      case round =>
        obtain ⟨k, xs, q, A, c, hk, rfl, rfl, HM, HQ, HO, HRr, HPr⟩ := hrel
        by_cases hlt : k < n
        · have HW := rcol_walk r q wr HRr.out (by have := HQ.out; have := HML.out; omega)
          have HWS := Lib.hid HPr.out.2.2.2.1
          rcases hd : rCol q with _ | ⟨a, q2⟩
          · rw [hd] at HW
            have HC := Lib.hid HW
            have HF := Lib.hid (HM.out.bad hlt hd)
            clear HW
            go_wp2_with (go_at_call 53; refine HC.out.mono ?_; rintro e w2 ⟨rfl, hp2⟩; have HP2 := Lib.hid (HPr.out.past hp2 HWS.out).whole; clear hp2)
            rw [HF.out]
            exact ⟨rfl, rfl, HP2.out⟩
          · rw [hd] at HW
            have HC := Lib.hid HW
            have HF := Lib.hid (HM.out.next hlt hd)
            have HQ2 := Lib.hid (show q2.length ≤ m.length by have h1 := col_codec.less hd; have := HQ.out; omega)
            clear HW
            go_wp2_with (first | (go_at_call 53; refine HC.out.mono ?_; rintro e w2 ⟨rfl, hr2, hp2⟩; have HR2 := Lib.hid hr2; have HO2 := Lib.hid (own_past HO.out hp2 HNE.out); have HS2 := Lib.hid (Nat.le_trans HWS.out hp2.size); have HP2 := Lib.hid (HPr.out.past hp2 HWS.out); clear hp2 hr2) | (at_builtin; go_loud (refine append_item Try.underlying34 info_col rfl (by decide) cCells_length cCells_one rfl _ _ rfl w.heap.size A k c xs rfl _ a HO2.out HS2.out _ rfl rfl (by omega) (by unfold maxLen; omega) [_, _] rfl ?_); intro A3 n3 c3 w3 hn3 ho3 hb3 hg3; have HO3 := Lib.hid ho3; have HR3 := Lib.hid (HR2.out.grown hb3 HNE.out); have HP3 := Lib.hid (HP2.out.below hb3); clear ho3 hb3 hg3; subst hn3))
            go_roundw
            case rel => exact ⟨k + 1, xs ++ [a], q2, A3, c3, by omega, by go_num, rfl, HF, HQ2, HO3, HR3, HP3⟩
            case measure => simp [intOf]; omega
        · have HF := Lib.hid (HM.out.done (by omega))
          have HL := Lib.hid HM.out.1
          have hkn : k = n := by omega
          subst hkn
          go_wp2
          go_ret
          rw [HF.out]
          refine ⟨A, c, ?_, ?_, HRr.out, HPr.out.whole⟩
          · rw [HL.out]; rfl
          · rw [HL.out]; exact HO.out
    · rw [rList_many hu (by omega)]
      have hg1 : decide ((n : Int) ≤ 16777216) = false := decide_eq_false (by omega)
      have hg2 : decide (n ≤ 16777216) = false := decide_eq_false hm
      clear hN h hm
      go_enter Try.func75, Try.ntmps75
      go_wp2_with (first | (go_at_call 82; refine HN.out.mono ?_; rintro e w1 ⟨rfl, hr1, hp1⟩; have HR1 := Lib.hid hr1; have HP1 := Lib.hid hp1; clear hp1 hr1) | (go_at_call 70; refine (must_no _ _).mono ?_; rintro e w2 ⟨rfl, rfl⟩))
      exact ⟨rfl, rfl, HP1.out⟩

theorem info_pair : (Try.prog.info? 70).map (fun i => (i.zero, i.size, i.bytes)) = some (some (Value.agg #[.string ⟨#[]⟩, .string ⟨#[]⟩]), 2, 32) := by kernel_rfl
set_option maxHeartbeats 2000000 in
theorem items_pair (r : Nat) (l : List UInt8) (w : World) (h : Rd w r l) (hl : l.length ≤ 16777216) :
    Calls Try.prog 79 #[.pointer (some ⟨r, 0, none⟩), .int .u64 16777216, .func (.func 55) #[] #[]] w (ItemsPost r 70 2 pCells (rList rPair 16777216 l) w) := by
  have HR := Lib.hid h
  have HNE := Lib.hid h.lt
  have hN := number_walk r l w h hl
  rcases hu : unL l with _ | ⟨n, m⟩
  · rw [hu] at hN
    rw [rList_none hu]
    have HN := Lib.hid hN
    clear hN h
    go_enter Try.func79, Try.ntmps79
    go_wp2_with (go_at_call 82; refine HN.out.mono ?_; rintro e w1 ⟨rfl, hp1⟩; have HP1 := Lib.hid hp1; clear hp1)
    exact ⟨rfl, rfl, HP1.out⟩
  · rw [hu] at hN
    have HN := Lib.hid hN
    have HML := Lib.hid (num_codec.less hu)
    by_cases hm : n ≤ 16777216
    · rw [rList_some hu hm]
      have hg1 : decide ((n : Int) ≤ 16777216) = true := decide_eq_true (by omega)
      clear hN h
      go_enter Try.func79, Try.ntmps79
      go_wp2_with (first | (go_at_call 82; refine HN.out.mono ?_; rintro e w1 ⟨rfl, hr1, hp1⟩; have HR1 := Lib.hid hr1; have HP1 := Lib.hid hp1; clear hp1 hr1) | (go_at_call 70; refine (must_ok _ _).mono ?_; rintro e w2 ⟨rfl, rfl⟩))
      clear hg1
      go_loopw [8, 17] (fun lv iv wr => ∃ (k : Nat) (xs : List Pa) (q : List UInt8) (A : Option Addr) (c : Nat), k ≤ n ∧ iv = .int .u64 (k : Int) ∧ lv = .slice A k c ∧ Hid (ManyK rPair n m k xs q) ∧ Hid (q.length ≤ m.length) ∧ Hid (wr.ownsRow w.heap.size 70 2 (.slice A k c) k (xs.flatMap pCells)) ∧ Hid (Rd wr r q) ∧ Hid (PastB r w.heap.size w wr)) (fun _ iv _ => n - (intOf iv).toNat)
      case atStart => exact ⟨0, [], m, none, 0, Nat.zero_le _, rfl, rfl, Lib.hid ManyK.start, Lib.hid (Nat.le_refl _), Lib.hid (World.ownsRow_nil _ _ _ _), HR1, Lib.hid ((PastB.refl r _ w).past HP1.out (Nat.le_refl _))⟩
      case round =>
        obtain ⟨k, xs, q, A, c, hk, rfl, rfl, HM, HQ, HO, HRr, HPr⟩ := hrel
        by_cases hlt : k < n
        · have HW := rpair_walk r q wr HRr.out (by have := HQ.out; have := HML.out; omega)
          have HWS := Lib.hid HPr.out.2.2.2.1
          rcases hd : rPair q with _ | ⟨a, q2⟩
          · rw [hd] at HW
            have HC := Lib.hid HW
            have HF := Lib.hid (HM.out.bad hlt hd)
            clear HW
            go_wp2_with (go_at_call 55; refine HC.out.mono ?_; rintro e w2 ⟨rfl, hp2⟩; have HP2 := Lib.hid (HPr.out.past hp2 HWS.out).whole; clear hp2)
            rw [HF.out]
            exact ⟨rfl, rfl, HP2.out⟩
          · rw [hd] at HW
            have HC := Lib.hid HW
            have HF := Lib.hid (HM.out.next hlt hd)
            have HQ2 := Lib.hid (show q2.length ≤ m.length by have h1 := pair_codec.less hd; have := HQ.out; omega)
            clear HW
            go_wp2_with (first | (go_at_call 55; refine HC.out.mono ?_; rintro e w2 ⟨rfl, hr2, hp2⟩; have HR2 := Lib.hid hr2; have HO2 := Lib.hid (own_past HO.out hp2 HNE.out); have HS2 := Lib.hid (Nat.le_trans HWS.out hp2.size); have HP2 := Lib.hid (HPr.out.past hp2 HWS.out); clear hp2 hr2) | (at_builtin; go_loud (refine append_item Try.underlying35 info_pair rfl (by decide) pCells_length pCells_one rfl _ _ rfl w.heap.size A k c xs rfl _ a HO2.out HS2.out _ rfl rfl (by omega) (by unfold maxLen; omega) [_, _] rfl ?_); intro A3 n3 c3 w3 hn3 ho3 hb3 hg3; have HO3 := Lib.hid ho3; have HR3 := Lib.hid (HR2.out.grown hb3 HNE.out); have HP3 := Lib.hid (HP2.out.below hb3); clear ho3 hb3 hg3; subst hn3))
            go_roundw
            case rel => exact ⟨k + 1, xs ++ [a], q2, A3, c3, by omega, by go_num, rfl, HF, HQ2, HO3, HR3, HP3⟩
            case measure => simp [intOf]; omega
        · have HF := Lib.hid (HM.out.done (by omega))
          have HL := Lib.hid HM.out.1
          have hkn : k = n := by omega
          subst hkn
          go_wp2
          go_ret
          rw [HF.out]
          refine ⟨A, c, ?_, ?_, HRr.out, HPr.out.whole⟩
          · rw [HL.out]; rfl
          · rw [HL.out]; exact HO.out
    · rw [rList_many hu (by omega)]
      have hg1 : decide ((n : Int) ≤ 16777216) = false := decide_eq_false (by omega)
      have hg2 : decide (n ≤ 16777216) = false := decide_eq_false hm
      clear hN h hm
      go_enter Try.func79, Try.ntmps79
      go_wp2_with (first | (go_at_call 82; refine HN.out.mono ?_; rintro e w1 ⟨rfl, hr1, hp1⟩; have HR1 := Lib.hid hr1; have HP1 := Lib.hid hp1; clear hp1 hr1) | (go_at_call 70; refine (must_no _ _).mono ?_; rintro e w2 ⟨rfl, rfl⟩))
      exact ⟨rfl, rfl, HP1.out⟩

theorem info_val : (Try.prog.info? 85).map (fun i => (i.zero, i.size, i.bytes)) = some (some (Value.agg #[.int .i64 0, .int .i64 0, .string ⟨#[]⟩]), 3, 32) := by kernel_rfl
set_option maxHeartbeats 2000000 in
theorem items_val (r : Nat) (l : List UInt8) (w : World) (h : Rd w r l) (hl : l.length ≤ 16777216) :
    Calls Try.prog 72 #[.pointer (some ⟨r, 0, none⟩), .int .u64 12, .func (.func 73) #[] #[]] w (ItemsPost r 85 3 V.cells (rList rVal 12 l) w) := by
  have HR := Lib.hid h
  have HNE := Lib.hid h.lt
  have hN := number_walk r l w h hl
  rcases hu : unL l with _ | ⟨n, m⟩
  · rw [hu] at hN
    rw [rList_none hu]
    have HN := Lib.hid hN
    clear hN h
    go_enter Try.func72, Try.ntmps72
    go_wp2_with (go_at_call 82; refine HN.out.mono ?_; rintro e w1 ⟨rfl, hp1⟩; have HP1 := Lib.hid hp1; clear hp1)
    exact ⟨rfl, rfl, HP1.out⟩
  · rw [hu] at hN
    have HN := Lib.hid hN
    have HML := Lib.hid (num_codec.less hu)
    by_cases hm : n ≤ 12
    · rw [rList_some hu hm]
      have hg1 : decide ((n : Int) ≤ 12) = true := decide_eq_true (by omega)
      clear hN h
      go_enter Try.func72, Try.ntmps72
      go_wp2_with (first | (go_at_call 82; refine HN.out.mono ?_; rintro e w1 ⟨rfl, hr1, hp1⟩; have HR1 := Lib.hid hr1; have HP1 := Lib.hid hp1; clear hp1 hr1) | (go_at_call 70; refine (must_ok _ _).mono ?_; rintro e w2 ⟨rfl, rfl⟩))
      clear hg1
      go_loopw [8, 17] (fun lv iv wr => ∃ (k : Nat) (xs : List V) (q : List UInt8) (A : Option Addr) (c : Nat), k ≤ n ∧ iv = .int .u64 (k : Int) ∧ lv = .slice A k c ∧ Hid (ManyK rVal n m k xs q) ∧ Hid (q.length ≤ m.length) ∧ Hid (wr.ownsRow w.heap.size 85 3 (.slice A k c) k (xs.flatMap V.cells)) ∧ Hid (Rd wr r q) ∧ Hid (PastB r w.heap.size w wr)) (fun _ iv _ => n - (intOf iv).toNat)
      case atStart => exact ⟨0, [], m, none, 0, Nat.zero_le _, rfl, rfl, Lib.hid ManyK.start, Lib.hid (Nat.le_refl _), Lib.hid (World.ownsRow_nil _ _ _ _), HR1, Lib.hid ((PastB.refl r _ w).past HP1.out (Nat.le_refl _))⟩
      case round =>
        obtain ⟨k, xs, q, A, c, hk, rfl, rfl, HM, HQ, HO, HRr, HPr⟩ := hrel
        by_cases hlt : k < n
        · have HW := rvalue_walk2 r q wr HRr.out (by have := HQ.out; have := HML.out; omega)
          have HWS := Lib.hid HPr.out.2.2.2.1
          rcases hd : rVal q with _ | ⟨a, q2⟩
          · rw [hd] at HW
            have HC := Lib.hid HW
            have HF := Lib.hid (HM.out.bad hlt hd)
            clear HW
            go_wp2_with (go_at_call 73; refine HC.out.mono ?_; rintro e w2 ⟨rfl, hp2⟩; have HP2 := Lib.hid (HPr.out.past hp2 HWS.out).whole; clear hp2)
            rw [HF.out]
            exact ⟨rfl, rfl, HP2.out⟩
          · rw [hd] at HW
            have HC := Lib.hid HW
            have HF := Lib.hid (HM.out.next hlt hd)
            have HQ2 := Lib.hid (show q2.length ≤ m.length by have h1 := val_codec.less hd; have := HQ.out; omega)
            clear HW
            go_wp2_with (first | (go_at_call 73; refine HC.out.mono ?_; rintro e w2 ⟨rfl, hr2, hp2⟩; have HR2 := Lib.hid hr2; have HO2 := Lib.hid (own_past HO.out hp2 HNE.out); have HS2 := Lib.hid (Nat.le_trans HWS.out hp2.size); have HP2 := Lib.hid (HPr.out.past hp2 HWS.out); clear hp2 hr2) | (at_builtin; go_loud (refine append_item Try.underlying80 info_val rfl (by decide) vCells_length vCells_one rfl _ _ rfl w.heap.size A k c xs rfl _ a HO2.out HS2.out _ rfl rfl (by omega) (by unfold maxLen; omega) [_, _, _] rfl ?_); intro A3 n3 c3 w3 hn3 ho3 hb3 hg3; have HO3 := Lib.hid ho3; have HR3 := Lib.hid (HR2.out.grown hb3 HNE.out); have HP3 := Lib.hid (HP2.out.below hb3); clear ho3 hb3 hg3; subst hn3))
            go_roundw
            case rel => exact ⟨k + 1, xs ++ [a], q2, A3, c3, by omega, by go_num, rfl, HF, HQ2, HO3, HR3, HP3⟩
            case measure => simp [intOf]; omega
        · have HF := Lib.hid (HM.out.done (by omega))
          have HL := Lib.hid HM.out.1
          have hkn : k = n := by omega
          subst hkn
          go_wp2
          go_ret
          rw [HF.out]
          refine ⟨A, c, ?_, ?_, HRr.out, HPr.out.whole⟩
          · rw [HL.out]; rfl
          · rw [HL.out]; exact HO.out
    · rw [rList_many hu (by omega)]
      have hg1 : decide ((n : Int) ≤ 12) = false := decide_eq_false (by omega)
      have hg2 : decide (n ≤ 12) = false := decide_eq_false hm
      clear hN h hm
      go_enter Try.func72, Try.ntmps72
      go_wp2_with (first | (go_at_call 82; refine HN.out.mono ?_; rintro e w1 ⟨rfl, hr1, hp1⟩; have HR1 := Lib.hid hr1; have HP1 := Lib.hid hp1; clear hp1 hr1) | (go_at_call 70; refine (must_no _ _).mono ?_; rintro e w2 ⟨rfl, rfl⟩))
      exact ⟨rfl, rfl, HP1.out⟩

end Go.Proofs.Ytkpajmgbiepmbaa
