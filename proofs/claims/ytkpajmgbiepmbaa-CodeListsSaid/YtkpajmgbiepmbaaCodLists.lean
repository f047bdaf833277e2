/- The walks of List over texts, with a function that counts its calls. -/
import Derived.Test.YtkpajmgbiepmbaaCodNums
namespace Go.Proofs.Ytkpajmgbiepmbaa
open Go.ChangeShapes Go.WideShapes Go.ChangeAt Go.RowKit
open Go.Lib (byteCells byteCells_length byteCells_append strCells)
set_option linter.unusedVariables false

/-- 'b = append(b, x...)' of bytes that lie somewhere. -/
theorem append_at {ops : Array Oper} {rest : List Oper} {o : Oper} {a : Act} {Q : Exit → Act → World → Prop} (hgd : o.guard = none) (s x : Operand)
    (ho : o.op = .call { callee := .builtin .append, args := #[s, x], argTypes := #[27, 27] })
    (B : Nat) (A : Option Addr) (n c : Nat) (bs : List UInt8) (hs : a.eval s = .slice A n c) (w0 : World) (hb : Buf B A n c bs w0)
    (B2 : Nat) (A2 : Option Addr) (n2 c2 : Nat) (news : List UInt8) (hx : a.eval x = .slice A2 n2 c2) (hn2 : n2 = news.length) (hb2 : BytesAt w0 B2 A2 news) (hpos : 0 < news.length) (hlen : bs.length + news.length ≤ 1099511627776)
    (h : ∀ A' n' c' w', Buf B A' n' c' (bs ++ news) w' → Keep B w0 w' → w0.grownBy w' (Value.ownBlock (.slice A n c)) → wpList Try.prog ops Q rest (a.put o.dst (.slice A' n' c')) w') :
    wpList Try.prog ops Q (o :: rest) a w0 := by
  obtain ⟨i0, hi, hz0, hz1, hz2⟩ := info_parts infoByte
  obtain ⟨g, off, rfl, hlt, _⟩ := hb2 0 hpos
  subst hn2
  refine wpList_append_own_at _ hgd s x 27 ho B 5 i0 _ 1 1 Try.underlying27 hi hz0 hz1 hz2 rfl (by decide) (.slice A n c) n (byteCells bs) hs hb.2.2 ⟨g, off, none⟩ news.length c2 (byteCells news) hx (by rw [byteCells_length, Nat.mul_one])
    (fun j u hj => ?_) (byte_one _) (by have := hb.1; unfold maxLen; omega) (by have := hb.1; omega) hb.2.1 ?_
  · have hjl : j < news.length := by rw [← byteCells_length news]; exact (List.getElem?_eq_some_iff.1 hj).1
    obtain ⟨b, off', e, _, hc⟩ := hb2 j hjl
    obtain ⟨rfl, rfl⟩ : g = b ∧ off = off' := by simpa using e
    have hu : u = .int .u8 (news[j].toNat : Int) := by
      simp [byteCells, List.getElem?_eq_getElem hjl] at hj
      exact hj.symm
    rw [add_at, hu]
    exact hc
  · intro v' w' hown hg _ _
    obtain ⟨A', c', rfl⟩ := own_slice hown
    have hk : Keep B w0 w' := Keep.grown hb hg
    exact h A' (n + news.length) c' w' ⟨by rw [hb.1]; simp, Nat.le_trans hb.2.1 hk.size, by rw [byteCells_append]; exact hown⟩ hk hg
theorem Buf.past {B r : Nat} {A : Option Addr} {n c : Nat} {bs : List UInt8} {w w' : World} (h : Buf B A n c bs w) (hp : Past r w w') (hr : r < B) : Buf B A n c bs w' := ⟨h.1, Nat.le_trans h.2.1 hp.size, own_past h.2.2 hp hr⟩

def semi (s : ByteArray) : List UInt8 := s.data.toList ++ [59]
theorem semi_length (s : ByteArray) : (semi s).length = s.size + 1 := by unfold semi; rw [List.length_append, ← size_eq]; rfl
/-- What the function that counts leaves. -/
def CountPost (r : Nat) (k : Int) (s : ByteArray) (w : World) (e : Ending) (w' : World) : Prop :=
  ∃ A c, e = .returned (.slice A (semi s).length c) ∧ BytesAt w' w'.heap.size A (semi s) ∧ w'.cell? ⟨r, 0, none⟩ = some (.int .i64 (k + 1)) ∧ w'.frozen? ⟨r, 0, none⟩ = false ∧ Past r w w'
set_option maxHeartbeats 1000000 in
theorem count_walk (s : ByteArray) (hs : s.size ≤ 1099511627776) (r : Nat) (k : Int) (hk : 0 ≤ k) (hk2 : k ≤ 1099511627776) (w : World) (hc : w.cell? ⟨r, 0, none⟩ = some (.int .i64 k)) (hf : w.frozen? ⟨r, 0, none⟩ = false) :
    Calls Try.prog 35 #[.string s, .pointer (some ⟨r, 0, none⟩)] w (CountPost r k s w) := by
  have hlt := World.block_lt_of_cell? w _ hc
  have hw : wrap64 (k + 1) = k + 1 := by unfold wrap64; omega
  have hw2 : IntKind.i64.wrap (k + 1) = k + 1 := IntWalk.i64_in _ (by omega)
  obtain ⟨T, hT⟩ : ∃ T : ByteArray, s ++ ⟨#[59]⟩ = T := ⟨_, rfl⟩
  have HTl := Lib.hid (show T.data.toList = semi s by rw [← hT]; simp [semi])
  have HTs := Lib.hid (show T.size = (semi s).length by rw [size_eq, HTl.out])
  have hcv := fun W => run_bytes_of_string (P := Try.prog) W 9 27 5 T Try.underlying9 Try.underlying27 Try.underlying5
  go_enter Try.func35, Try.ntmps35
  go_wp2
  go_ret
  refine ⟨_, _, by rw [← HTs.out]; rfl, ?_, ?_, ?_, ?_⟩
  · rw [← HTl.out]
    have h := laid_bytes T (w.setCell ⟨r, 0, none⟩ (.int .i64 (k + 1))) (grownCap (w.setCell ⟨r, 0, none⟩ (.int .i64 (k + 1))) T.size 0 5) 5 ((bytesRow T (grownCap (w.setCell ⟨r, 0, none⟩ (.int .i64 (k + 1))) T.size 0 5)).size, (bytesRow T (grownCap (w.setCell ⟨r, 0, none⟩ (.int .i64 (k + 1))) T.size 0 5)).size + 1)
    simpa [World.setCell] using h
  · have h0 : (w.setCell ⟨r, 0, none⟩ (.int .i64 (k + 1))).cell? ⟨r, 0, none⟩ = some (.int .i64 (k + 1)) := World.cell?_setCell_same _ _ _ hc
    exact (Below.cell (((Below.refl (w.setCell ⟨r, 0, none⟩ (.int .i64 (k + 1))).heap.size _).alloc (Nat.le_refl _) _).drew) (p := ⟨r, 0, none⟩) (by simpa [World.setCell] using hlt)).trans h0
  · have h0 : (w.setCell ⟨r, 0, none⟩ (.int .i64 (k + 1))).frozen? ⟨r, 0, none⟩ = false := by rw [World.frozen?_setCell]; exact hf
    exact (Below.frozen (((Below.refl (w.setCell ⟨r, 0, none⟩ (.int .i64 (k + 1))).heap.size _).alloc (Nat.le_refl _) _).drew) (p := ⟨r, 0, none⟩) (by simpa [World.setCell] using hlt)).trans h0
  · exact ((Past.set r 0 w _).alloc _).drew

/-- What is counted, and what is told, up to place k. -/
structure Told (r : Nat) (l : List ByteArray) (B k : Nat) (A : Option Addr) (n c : Nat) (w wr : World) : Prop where
  buf : Buf B A n c (upTo semi l k) wr
  cell : wr.cell? ⟨r, 0, none⟩ = some (.int .i64 (k : Int))
  froz : wr.frozen? ⟨r, 0, none⟩ = false
  past : PastB r B w wr
set_option maxHeartbeats 2000000 in
theorem within_str (l : List ByteArray) (A : Option Addr) (n c r : Nat) (w : World) (hn : n = l.length) (hm : n ≤ 4096) (hr : r < w.heap.size) (hat : RowC sCells 1 w r A l) (hsz : ∀ s ∈ l, s.size ≤ 4096) (htot : (listL semi l).length ≤ 1048576)
    (hcell : w.cell? ⟨r, 0, none⟩ = some (.int .i64 0)) (hfr : w.frozen? ⟨r, 0, none⟩ = false) :
    Calls Try.prog 63 #[.int .i64 9223372036854775807, .slice A n c, .func (.func 35) #[] #[.pointer (some ⟨r, 0, none⟩)]] w fun e w' => ∃ A' n' c', e = .returned (.tuple #[.slice A' n' c', .int .i64 0]) ∧ Told r l w.heap.size l.length A' n' c' w w' := by
  have HN := Lib.hid hn
  have HA := Lib.hid hat
  have HS := Lib.hid hsz
  have HT := Lib.hid htot
  have HR := Lib.hid hr
  have HC := Lib.hid (num_walk n (by omega) w)
  have HW0 := Lib.hid (show w.cell? ⟨r, 0, none⟩ = some (.int .i64 0) ∧ w.frozen? ⟨r, 0, none⟩ = false from ⟨hcell, hfr⟩)
  have hW : IntKind.u64.wrap (n : Int) = (n : Int) := u64_in _ (by omega)
  clear hn hat hsz htot hr hcell hfr
  go_enter Try.func63, Try.ntmps63
  go_wp2_with (go_at_call 12; refine HC.out.mono ?_; rintro e w1 ⟨A1, n1, c1, rfl, hb1, hbel1⟩; have HB1 := Lib.hid hb1; have HBel1 := Lib.hid hbel1; clear hb1 hbel1)
  go_loopw [8, 17] (fun bv iv wr => ∃ (k : Nat) (A' : Option Addr) (n' c' : Nat), k ≤ n ∧ iv = .int .i64 (k : Int) ∧ bv = .slice A' n' c' ∧ Hid (Told r l w.heap.size k A' n' c' w wr)) (fun _ iv _ => n - (intOf iv).toNat)
  case atStart => exact ⟨0, A1, n1, c1, Nat.zero_le _, rfl, rfl, Lib.hid ⟨by rw [upTo_zero, ← HN.out]; exact HB1.out, (HBel1.out.cell (p := ⟨r, 0, none⟩) HR.out).trans HW0.out.1, (HBel1.out.frozen (p := ⟨r, 0, none⟩) HR.out).trans HW0.out.2, (PastB.refl r _ w).below HBel1.out⟩⟩
  case round =>
    obtain ⟨k, A', n', c', hk, rfl, rfl, HTd⟩ := hrel
    by_cases hlt : k < n
    · have hkl : k < l.length := by rw [← HN.out]; exact hlt
      obtain ⟨b, off, rfl, hB, hc⟩ := HA.out k hkl
      have c0 := hc 0 _ rfl
      rw [Nat.mul_one, Nat.add_zero] at c0
      obtain ⟨x, hx⟩ : ∃ x, l[k] = x := ⟨_, rfl⟩
      have HX := Lib.hid hx
      simp only [hx] at c0
      have c1 : wr.cell? ⟨b, off + k, none⟩ = some (.string x) := by
        have hp := HTd.out.past
        have hblk := hp.2.2.2.2 b (by have := HR.out; omega) (by omega)
        exact (World.cell?_of_block (w := w) hblk).trans c0
      have hxs : x.size ≤ 4096 := HS.out x (by rw [← hx]; exact List.getElem_mem hkl)
      have HCW := Lib.hid (count_walk x (by omega) r (k : Int) (by omega) (by omega) wr HTd.out.cell HTd.out.froz)
      have HUN := Lib.hid (upTo_next (enc := semi) hkl)
      rw [hx] at HUN
      have hle := upTo_le (enc := semi) (l := l) (k + 1)
      have hle2 : Hid ((upTo semi l k).length + (semi x).length ≤ 1099511627776) := Lib.hid (by have h1 := HT.out; rw [HUN.out, List.length_append] at hle; omega)
      have HLE := Lib.hid (Nat.le_trans hle HT.out)
      have HPX := Lib.hid (show 0 < (semi x).length by rw [semi_length]; omega)
      have HSZ := Lib.hid HTd.out.past.2.2.2.1
      clear hx hle hc c0
      go_wp2_with (first | (go_at_call 35; refine HCW.out.mono ?_; rintro e w2 ⟨A2, c2, rfl, hb2, hc2, hf2, hp2⟩; have HB2 := Lib.hid hb2; have HF2 := Lib.hid (And.intro hc2 hf2); have HBb := Lib.hid (HTd.out.buf.past hp2 HR.out); have HP2 := Lib.hid (HTd.out.past.past hp2 HSZ.out); clear hb2 hp2 hc2 hf2) | (at_builtin; go_loud (refine append_at rfl _ _ rfl w.heap.size _ _ _ (upTo semi l k) rfl _ HBb.out _ _ _ _ (semi x) rfl rfl HB2.out HPX.out hle2.out ?_); intro A3 n3 c3 w3 hb3 hk3 hg3; have HTD3 := Lib.hid (show Told r l w.heap.size (k + 1) A3 n3 c3 w w3 from ⟨by rw [HUN.out]; exact hb3, (hk3.below.cell (p := ⟨r, 0, none⟩) HR.out).trans HF2.out.1, (hk3.below.frozen (p := ⟨r, 0, none⟩) HR.out).trans HF2.out.2, HP2.out.below hk3.below⟩); have hn3 : ¬ (9223372036854775807 : Int) < (n3 : Int) := (by have h1 := hb3.1; have h2 := HLE.out; rw [HUN.out] at h2; omega); clear hb3 hk3 hg3))
      go_roundw
      case rel => exact ⟨k + 1, A3, n3, c3, by omega, by go_num, rfl, HTD3⟩
      case measure => simp [intOf]; omega
    · have hkn : k = l.length := by rw [← HN.out]; omega
      have HF := Lib.hid (show Told r l w.heap.size l.length A' n' c' w wr by rw [← hkn]; exact HTd.out)
      clear hkn
      go_wp2
      go_ret2
      exact ⟨A', n', c', rfl, HF.out⟩
set_option maxRecDepth 4000 in
set_option maxHeartbeats 2000000 in
theorem list_str (l : List ByteArray) (A : Option Addr) (n c r : Nat) (w : World) (hn : n = l.length) (hm : n ≤ 4096) (hr : r < w.heap.size) (hat : RowC sCells 1 w r A l) (hsz : ∀ s ∈ l, s.size ≤ 4096) (htot : (listL semi l).length ≤ 1048576)
    (hcell : w.cell? ⟨r, 0, none⟩ = some (.int .i64 0)) (hfr : w.frozen? ⟨r, 0, none⟩ = false) :
    Calls Try.prog 34 #[.slice A n c, .func (.func 35) #[] #[.pointer (some ⟨r, 0, none⟩)]] w fun e w' => ∃ A' n' c', e = .returned (.slice A' n' c') ∧ Told r l w.heap.size l.length A' n' c' w w' := by
  have H := Lib.hid (within_str l A n c r w hn hm hr hat hsz htot hcell hfr)
  have hnil : ∀ w, (binOp .eql 76 (.func (.func 35) #[] #[.pointer (some ⟨r, 0, none⟩)]) .nilFunc).run Try.prog w = .ok (.bool false) w := fun w => run_eql_func_nil w _ _ _ _ _ _ _ Try.underlying76
  clear hn hat hcell hfr hsz htot
  go_enter Try.func34, Try.ntmps34
  go_wp2_with (go_at_call 63; refine H.out.mono ?_; rintro e w1 ⟨A1, n1, c1, rfl, htd⟩; have HTD := Lib.hid htd; clear htd)
  go_ret
  exact ⟨A1, n1, c1, rfl, HTD.out⟩
end Go.Proofs.Ytkpajmgbiepmbaa
