/- Layer 12, walked: the first fields of a text. -/
import Derived.Test.YtfkfgabepjpdlaaDoorDecW5
import Derived.Shelf.Abstract
namespace Go.Proofs.YtfkfgabepjpdlaaDoor
open Go.ChangeShapes Go.WideShapes Go.ChangeAt Go.RowKit
set_option linter.unusedVariables false

theorem infoStr : (Tryd.prog.info? 9).map (fun i => (i.zero, i.size, i.bytes)) = some (some (.string ByteArray.empty), 1, 16) := by kernel_rfl
def sliceLen : Value → Nat
  | .slice _ n _ => n
  | _ => 0
theorem fieldsS_any (s : ByteArray) (w : World) :
    Calls Tryd.prog 36 #[.string s] w fun e w' => e = .returned (.func (.func 47) #[] #[.pointer (some ⟨w.heap.size + 1, 0, none⟩), .pointer (some ⟨w.heap.size, 0, none⟩)]) ∧
      w' = (w.alloc (.cells #[.string s] 9)).alloc (.cells #[.int .i64 0] 3) := by
  go_enter Tryd.func36, Tryd.ntmps36
  go_wp2
  go_ret
  exact ⟨rfl, rfl⟩
/-- What is between two fields: where the next one begins, and what there is so far. -/
structure UpS (s : ByteArray) (w : World) (A : Option Addr) (n c : Nat) (done : List ByteArray) (p : Nat) (wr : World) : Prop where
  below : Below w.heap.size w wr
  size : w.heap.size + 2 ≤ wr.heap.size
  from_ : wr.heap[w.heap.size + 1]? = some (.cells #[.int .i64 (p : Int)] 3 (0, 0))
  text : wr.heap[w.heap.size]? = some (.cells #[.string s] 9 (0, 0))
  own : wr.ownsRow (w.heap.size + 2) 9 1 (.slice A n c) n (done.flatMap sCells)
section
variable {s : ByteArray} {w wr : World} {A : Option Addr} {n c p : Nat} {done : List ByteArray}
theorem UpS.start (s : ByteArray) (w : World) (q : Nat) : UpS s w none 0 0 [] q ((w.alloc (.cells #[.string s] 9)).alloc (.cells #[.int .i64 (q : Int)] 3)) :=
  ⟨((Below.refl _ _).alloc (Nat.le_refl _) _).alloc (by simp) _, by simp, by
    have := World.alloc_heap_new (w.alloc (.cells #[.string s] 9)) (.cells #[.int .i64 (q : Int)] 3)
    simpa using this, by
    exact (Below.heap_alloc _ _ _ (by simp)).trans (World.alloc_heap_new _ _), World.ownsRow_nil _ _ _ 1⟩
theorem UpS.set (h : UpS s w A n c done p wr) (q : Nat) : UpS s w A n c done q (wr.setCell ⟨w.heap.size + 1, 0, none⟩ (.int .i64 (q : Int))) :=
  ⟨h.below.setCell (by simp) _, by simpa using h.size, one_setCell h.from_, (Below.heap_setCell _ _ _ _ (by simp)).trans h.text,
    ownsRow_setCell_other h.own (fun e => by have := (h.own.lt _ e).1; simp at this) _⟩
theorem UpS.more {A2 : Option Addr} {n2 c2 : Nat} {done2 : List ByteArray} {w2 : World} (h : UpS s w A n c done p wr) (hb : Below (w.heap.size + 2) wr w2) (ho : w2.ownsRow (w.heap.size + 2) 9 1 (.slice A2 n2 c2) n2 (done2.flatMap sCells)) : UpS s w A2 n2 c2 done2 p w2 :=
  ⟨h.below.trans (hb.mono (by omega)), Nat.le_trans h.size hb.size, (hb.block _ (by omega)).trans h.from_, (hb.block _ (by omega)).trans h.text, ho⟩
end
/-- What the next field is. -/
def NextIs (l : List UInt8) (done : List ByteArray) (p : Nat) (ok : Bool) (field : ByteArray) : Prop :=
  (ok = true ∧ p ≤ l.length + 1 ∧ (splitL l).map txt = done ++ field :: (splitF l p).map txt) ∨ (ok = false ∧ l.length < p ∧ p ≤ l.length + 1 ∧ (splitL l).map txt = done)
theorem NextIs.start (l : List UInt8) : NextIs l [] (fl l + 1) true (txt (l.take (fl l))) := by
  refine .inl ⟨rfl, ?_, ?_⟩
  · have := fl_le l; omega
  · rw [← splitF_all, splitF_step (Nat.zero_le _), List.drop_zero, Nat.zero_add]; rfl
theorem NextIs.go {l : List UInt8} {done : List ByteArray} {p : Nat} {field : ByteArray} (h : NextIs l done p true field) (hp : p ≤ l.length) : NextIs l (done ++ [field]) (p + fl (l.drop p) + 1) true (txt ((l.drop p).take (fl (l.drop p)))) := by
  rcases h with ⟨_, h1, h2⟩ | ⟨h, _⟩
  · refine .inl ⟨rfl, ?_, ?_⟩
    · have := fl_le (l.drop p); rw [List.length_drop] at this; omega
    · rw [h2, splitF_step hp]; simp
  · cases h
theorem NextIs.end_ {l : List UInt8} {done : List ByteArray} {p : Nat} {field : ByteArray} (h : NextIs l done p true field) (hp : l.length < p) (f2 : ByteArray) : NextIs l (done ++ [field]) p false f2 := by
  rcases h with ⟨_, h1, h2⟩ | ⟨h, _⟩
  · refine .inr ⟨rfl, hp, h1, ?_⟩
    rw [h2, splitF_end hp]; simp
  · cases h
theorem NextIs.len {l : List UInt8} {done : List ByteArray} {p : Nat} {field : ByteArray} (h : NextIs l done p true field) : done.length ≤ l.length ∧ p ≤ l.length + 1 := by
  rcases h with ⟨_, h1, h2⟩ | ⟨h, _⟩
  · have h3 := (splitT_len false [] l).2
    have h4 := congrArg List.length h2
    simp only [splitL, List.length_map, List.length_append, List.length_cons] at h4
    exact ⟨by omega, h1⟩
  · cases h
/-- The texts xs, in new memory. -/
def StrsPost (xs : List ByteArray) (w : World) (e : Ending) (w' : World) : Prop :=
  ∃ A n c, e = .returned (.slice A n c) ∧ n = xs.length ∧ w'.ownsRow w.heap.size 9 1 (.slice A n c) n (xs.flatMap sCells) ∧ Below w.heap.size w w'
set_option maxHeartbeats 1000000 in
set_option maxRecDepth 20000 in
theorem upToS_any (m : Nat) (hm : m ≤ 9223372036854775807) (s : ByteArray) (hs : s.size ≤ 68719476736) (w : World) :
    Calls Tryd.prog 27 #[.int .i64 (m : Int), .string s] w (StrsPost (((splitL s.data.toList).take m).map txt) w) := by
  have HSZ := Lib.hid (size_eq s)
  obtain ⟨l, hl⟩ : ∃ l, s.data.toList = l := ⟨_, rfl⟩
  have HLS := Lib.hid hl
  rw [hl] at HSZ ⊢
  clear hl
  go_enter Tryd.func27, Tryd.ntmps27
  have HU := Lib.hid (UpS.start s w 0)
  have HFI := Lib.hid (nextS_any s (w.heap.size + 1) w.heap.size 0 _ (by omega) (Nat.zero_le _) HU.out.from_ HU.out.text (by omega))
  have HU1 := Lib.hid (show UpS s w none 0 0 [] (fl l + 1) ((w.alloc (.cells #[.string s] 9)).alloc (.cells #[.int .i64 ((fl l : Int) + 1)] 3)) from UpS.start s w (fl l + 1))
  have HN1 := Lib.hid (NextIs.start l)
  rw [HLS.out] at HFI
  go_wp2_with (first | (go_at_call 36; refine (fieldsS_any s _).mono ?_; rintro e w1 ⟨rfl, rfl⟩) | (go_at_call 47; go_loud (refine HFI.out.mono ?_; rintro e w2 ⟨rfl, rfl⟩)))
  go_loopw [5, 7, 8] (fun lv fv ov wr => ∃ A n c done p ok field, lv = .slice A n c ∧ fv = .string field ∧ ov = .bool ok ∧ n ≤ m ∧ n = done.length ∧ Hid (UpS s w A n c done p wr) ∧ Hid (NextIs l done p ok field)) (fun lv _ _ _ => s.size + 3 - sliceLen lv)
  case atStart => exact ⟨none, 0, 0, [], _, true, _, rfl, by simp, rfl, Nat.zero_le _, rfl, HU1, HN1⟩
  case round =>
    obtain ⟨A, n, c, done, p, ok, field, rfl, rfl, rfl, hnm, hnd, HUP, HNX⟩ := hrel
    have HND := Lib.hid hnd
    clear hnd
    cases ok
    · have HE := Lib.hid (show (splitL l).map txt = done by
        rcases HNX.out with ⟨h, _⟩ | ⟨_, _, _, h⟩
        · cases h
        · exact h)
      go_wp2
      go_ret
      have h1 := HUP.out
      have h2 := HE.out
      have hle : (splitL l).length ≤ m := by have := congrArg List.length h2; simp at this; have := HND.out; omega
      refine ⟨A, n, c, rfl, ?_, ?_, h1.below⟩
      · rw [List.take_of_length_le hle, h2]; exact HND.out
      · rw [List.take_of_length_le hle, h2]; exact h1.own.mono (by omega)
    · by_cases hlt : n < m
      · have hq : decide ((n : Int) < (m : Int)) = true := decide_eq_true (by omega)
        have HLN := Lib.hid HNX.out.len
        have hn1 : n ≤ s.size := by have := HLN.out.1; have := HND.out; have := HSZ.out; omega
        by_cases hp : p ≤ s.size
        · have HGO := Lib.hid (HNX.out.go (by rw [← HSZ.out]; exact hp))
          have HLE := Lib.hid (show (done ++ [field]).length = n + 1 by rw [List.length_append]; have := HND.out; simp; omega)
          have HNEXT := Lib.hid (fun (A2 : Option Addr) (n2 c2 : Nat) (w2 : World) (h : UpS s w A2 n2 c2 (done ++ [field]) p w2) => nextS_any s (w.heap.size + 1) w.heap.size p w2 (by omega) hp h.from_ h.text (by omega))
          rw [HLS.out] at HNEXT
          go_wp2_with (first
            | (at_builtin; go_loud (refine append_item Tryd.underlying39 infoStr rfl (by decide) sCells_length sCells_one rfl _ _ rfl (w.heap.size + 2) A n c done rfl _ field HUP.out.own HUP.out.size _ rfl rfl (by omega) (by unfold maxLen; omega) [_] rfl ?_); intro A2 n2 c2 w2 hn2 ho2 hb2 _; have HUP2 := Lib.hid (HUP.out.more hb2 ho2); clear ho2 hb2; subst hn2)
            | (go_at_call 47; refine (HNEXT.out _ _ _ _ HUP2.out).mono ?_; rintro e w3 ⟨rfl, rfl⟩))
          have HUP3 := Lib.hid (HUP2.out.set (p + fl (l.drop p) + 1))
          go_roundw
          case rel => exact ⟨_, _, _, _, _, true, _, rfl, rfl, rfl, by omega, HLE.out.symm, HUP3, HGO⟩
          case measure => simp [sliceLen]; omega
        · have HGO := Lib.hid (HNX.out.end_ (by rw [← HSZ.out]; omega) ⟨#[]⟩)
          have HLE := Lib.hid (show (done ++ [field]).length = n + 1 by rw [List.length_append]; have := HND.out; simp; omega)
          have hp2 : p ≤ 1099511627778 := by have := HLN.out.2; have := HSZ.out; omega
          have HNEXT := Lib.hid (fun (A2 : Option Addr) (n2 c2 : Nat) (w2 : World) (h : UpS s w A2 n2 c2 (done ++ [field]) p w2) => nextS_end s (w.heap.size + 1) w.heap.size p w2 (by omega) (by omega) hp2 h.from_ h.text)
          go_wp2_with (first
            | (at_builtin; go_loud (refine append_item Tryd.underlying39 infoStr rfl (by decide) sCells_length sCells_one rfl _ _ rfl (w.heap.size + 2) A n c done rfl _ field HUP.out.own HUP.out.size _ rfl rfl (by omega) (by unfold maxLen; omega) [_] rfl ?_); intro A2 n2 c2 w2 hn2 ho2 hb2 _; have HUP2 := Lib.hid (HUP.out.more hb2 ho2); clear ho2 hb2; subst hn2)
            | (go_at_call 47; refine (HNEXT.out _ _ _ _ HUP2.out).mono ?_; rintro e w3 ⟨rfl, rfl⟩))
          go_roundw
          case rel => exact ⟨_, _, _, _, _, false, _, rfl, rfl, rfl, by omega, HLE.out.symm, HUP2, HGO⟩
          case measure => simp [sliceLen]; omega
      · have hq : decide ((n : Int) < (m : Int)) = false := decide_eq_false (by omega)
        have hnm2 : n = m := by omega
        have HE := Lib.hid (show ((splitL l).take m).map txt = done by
          rcases HNX.out with ⟨_, _, h⟩ | ⟨h, _⟩
          · rw [List.map_take, h, List.take_left' (by rw [← HND.out]; exact hnm2)]
          · cases h)
        clear hnm2
        go_wp2
        go_ret
        have h1 := HUP.out
        have h2 := HE.out
        refine ⟨A, n, c, rfl, ?_, ?_, h1.below⟩
        · rw [h2]; exact HND.out
        · rw [h2]; exact h1.own.mono (by omega)
end Go.Proofs.YtfkfgabepjpdlaaDoor
