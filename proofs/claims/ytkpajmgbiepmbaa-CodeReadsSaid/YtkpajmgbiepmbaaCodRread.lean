/- The walks of the plain text that reads: ints, texts. -/
import Derived.Test.YtkpajmgbiepmbaaCodTell
import Derived.Test.YtkpajmgbiepmbaaCodItems
namespace Go.Proofs.Ytkpajmgbiepmbaa
open Go.ChangeShapes Go.WideShapes Go.ChangeAt Go.RowKit
open Go.Lib (byteCells byteCells_length byteCells_append strCells)
set_option linter.unusedVariables false

/-- q is what is left of the text s. -/
def Suf (s : ByteArray) (q : List UInt8) : Prop := ∃ p, s.data.toList = p ++ q
theorem Suf.all (s : ByteArray) : Suf s s.data.toList := ⟨[], rfl⟩
theorem Suf.next {α : Type} {enc : α → List UInt8} {dec : List UInt8 → Option (α × List UInt8)} {ok : α → Prop} (hc : Codec enc dec ok) {s : ByteArray} {q r : List UInt8} {a : α} (h : Suf s q) (hd : dec q = some (a, r)) : Suf s r := by
  obtain ⟨p, hp⟩ := h
  obtain ⟨h1, _⟩ := hc.only _ _ _ hd
  exact ⟨p ++ enc a, by rw [hp, h1, List.append_assoc]⟩
theorem Suf.le {s : ByteArray} {q : List UInt8} (h : Suf s q) : q.length ≤ s.size := by
  obtain ⟨p, hp⟩ := h
  have := size_eq s
  rw [hp, List.length_append] at this
  omega
theorem Suf.at_ {s : ByteArray} {q : List UInt8} (h : Suf s q) : ∃ o, o + q.length = s.size := ⟨s.size - q.length, by have := h.le; omega⟩
theorem Suf.drop {s : ByteArray} {q : List UInt8} (h : Suf s q) {o : Nat} (ho : o + q.length = s.size) : s.data.toList.drop o = q := by
  obtain ⟨p, hp⟩ := h
  have h1 := size_eq s
  rw [hp, List.length_append] at h1
  rw [hp, show o = p.length by omega, List.drop_left]
theorem Suf.tail {s : ByteArray} {c : UInt8} {r : List UInt8} (h : Suf s (c :: r)) : Suf s r := by
  obtain ⟨p, hp⟩ := h
  exact ⟨p ++ [c], by rw [hp]; simp⟩
theorem Suf.get {s : ByteArray} {c : UInt8} {r : List UInt8} (h : Suf s (c :: r)) {o : Nat} (ho : o + (c :: r).length = s.size) (hlt : o < s.size) : s[o] = c := by
  have hd := h.drop ho
  have hl : o < s.data.toList.length := by rw [← size_eq]; exact hlt
  have h1 : s[o] = s.data.toList[o] := by rfl
  rw [h1]
  rw [List.drop_eq_getElem_cons hl] at hd
  exact (List.cons.inj hd).1
theorem Suf.part {s : ByteArray} {q : List UInt8} (h : Suf s q) {o : Nat} (ho : o + q.length = s.size) (n : Nat) : s.extract o (o + n) = txt (q.take n) := by
  apply str_ext
  rw [txt_list, ← h.drop ho]
  simp [ByteArray.data_extract, List.extract_eq_take_drop]

theorem punnum_walk (s : ByteArray) (q : List UInt8) (o : Nat) (ho : o + q.length = s.size) (hq : Suf s q) (hs : s.size ≤ 1099511627776) (w : World) :
    Calls Try.prog 11 #[.string s, .int .i64 (o : Int)] w fun e w' => e = .returned (rOut s.size (unL q)) ∧ w = w' := by
  have h := runnum_walk s o w hs (by omega)
  rw [hq.drop ho] at h
  exact h

/-- A value and the place behind it. -/
def rdOut {α : Type} (t : Nat) (f : α → Value) (z : Value) : Option (α × List UInt8) → Value
  | none => .tuple #[z, .int .i64 (-1)]
  | some p => .tuple #[f p.1, .int .i64 ((t - p.2.length : Nat) : Int)]
def iVal (x : Int) : Value := .int .i64 x
def sVal (s : ByteArray) : Value := .string s
set_option maxRecDepth 4000 in
set_option maxHeartbeats 1000000 in
theorem punint_walk (s : ByteArray) (q : List UInt8) (o : Nat) (ho : o + q.length = s.size) (hq : Suf s q) (hs : s.size ≤ 1099511627776) (w : World) :
    Calls Try.prog 60 #[.string s, .int .i64 (o : Int)] w fun e w' => e = .returned (rdOut s.size iVal (.int .i64 0) (rInt q)) ∧ w = w' := by
  have H := Lib.hid (punnum_walk s q o ho hq hs)
  have HR := Lib.hid (show rInt q = (unL q).map fun p => (unzig p.1, p.2) from rfl)
  rw [HR.out]
  rcases hu : unL q with _ | ⟨n, r⟩
  · rw [hu] at H
    clear ho hq hs
    go_enter Try.func60, Try.ntmps60
    go_wp2_with (go_at_call 11; refine (H.out _).mono ?_; unfold rOut; rintro e w2 ⟨rfl, rfl⟩)
    go_ret2
    exact ⟨rfl, rfl⟩
  · rw [hu] at H
    have hn := (unL_only hu).2
    obtain ⟨m, hm⟩ : ∃ m, n / 2 = m := ⟨_, rfl⟩
    have h5 : ((n : Int) / 2) = (m : Int) := by omega
    have h6 : (n : Int).tdiv 2 = (m : Int) := by rw [Int.tdiv_eq_ediv_of_nonneg (by omega)]; exact h5
    have h7 : IntKind.u64.wrap (m : Int) = (m : Int) := u64_in _ (by omega)
    have h8 : IntKind.i64.wrap (m : Int) = (m : Int) := by rw [IntKind.wrap_i64]; omega
    clear ho hq hs
    by_cases h1 : n % 2 = 1
    · have HZ := Lib.hid (show unzig n = -(m : Int) - 1 by unfold unzig; rw [if_pos h1, hm])
      have h2 : (n : Int) % 2 = 1 := by omega
      have h3 : (n : Int).tmod 2 = 1 := by rw [Int.tmod_eq_emod_of_nonneg (by omega)]; exact h2
      have h9 : IntKind.i64.wrap (-(m : Int)) = -(m : Int) := by rw [IntKind.wrap_i64]; omega
      have h10 : IntKind.i64.wrap (-(m : Int) - 1) = -(m : Int) - 1 := by rw [IntKind.wrap_i64]; omega
      go_enter Try.func60, Try.ntmps60
      go_wp2_with (go_at_call 11; refine (H.out _).mono ?_; unfold rOut; rintro e w2 ⟨rfl, rfl⟩)
      go_ret2
      exact ⟨by simp only [Option.map_some, rdOut, iVal]; rw [HZ.out]; rfl, rfl⟩
    · have HZ := Lib.hid (show unzig n = (m : Int) by unfold unzig; rw [if_neg h1, hm])
      have h2 : (n : Int) % 2 = 0 := by omega
      have h3 : (n : Int).tmod 2 = 0 := by rw [Int.tmod_eq_emod_of_nonneg (by omega)]; exact h2
      go_enter Try.func60, Try.ntmps60
      go_wp2_with (go_at_call 11; refine (H.out _).mono ?_; unfold rOut; rintro e w2 ⟨rfl, rfl⟩)
      go_ret2
      exact ⟨by simp only [Option.map_some, rdOut, iVal]; rw [HZ.out]; rfl, rfl⟩

theorem punword_none (s : ByteArray) (w : World) :
    Calls Try.prog 59 #[.string s, .int .i64 (-1)] w fun e w' => e = .returned (.tuple #[.string ⟨#[]⟩, .int .i64 (-1)]) ∧ w = w' := by
  go_enter Try.func59, Try.ntmps59
  go_wp2_with (go_at_call 11; refine (runnum_none s _).mono ?_; unfold rOut; rintro e w2 ⟨rfl, rfl⟩)
  go_ret2
  exact ⟨rfl, rfl⟩
set_option maxRecDepth 4000 in
set_option maxHeartbeats 1000000 in
theorem punword_walk (s : ByteArray) (q : List UInt8) (o : Nat) (ho : o + q.length = s.size) (hq : Suf s q) (hs : s.size ≤ 1099511627776) (w : World) :
    Calls Try.prog 59 #[.string s, .int .i64 (o : Int)] w fun e w' => e = .returned (rdOut s.size sVal (.string ⟨#[]⟩) (rWord q)) ∧ w = w' := by
  have H := Lib.hid (punnum_walk s q o ho hq hs)
  rcases hu : unL q with _ | ⟨n, r⟩
  · rw [hu] at H
    have HR := Lib.hid (rWord_none hu)
    clear ho hq hs
    go_enter Try.func59, Try.ntmps59
    go_wp2_with (go_at_call 11; refine (H.out _).mono ?_; unfold rOut; rintro e w2 ⟨rfl, rfl⟩)
    go_ret2
    exact ⟨by rw [HR.out]; rfl, rfl⟩
  · rw [hu] at H
    have HR := Lib.hid (rWord_some hu)
    have hn := (unL_only hu).2
    have hr := hq.next num_codec hu
    obtain ⟨o2, ho2⟩ := hr.at_
    have HP := Lib.hid (hr.part ho2 n)
    have HD := Lib.hid (show (r.drop n).length = r.length - n from List.length_drop)
    have HO := Lib.hid (show s.size - r.length = o2 by omega)
    obtain ⟨t, ht⟩ : ∃ t, r.length = t := ⟨_, rfl⟩
    have HT := Lib.hid ht
    rw [ht] at ho2 HD HO
    have g0 : ¬ (o2 : Int) < 0 := by omega
    have h1 : IntKind.i64.wrap ((s.size : Int) - (o2 : Int)) = (t : Int) := by rw [IntKind.wrap_i64]; omega
    have h2 : IntKind.u64.wrap (t : Int) = (t : Int) := u64_in _ (by omega)
    have h3 : (s.size : Int) - (o2 : Int) = (t : Int) := by omega
    clear ho hq hr ht
    by_cases hf : n ≤ t
    · have HK := Lib.hid (show takeL n r = some (txt (r.take n), r.drop n) by unfold takeL; rw [HT.out, if_pos hf])
      have g1 : decide ((t : Int) < (n : Int)) = false := decide_eq_false (by omega)
      have h4 : IntKind.i64.wrap (n : Int) = (n : Int) := by rw [IntKind.wrap_i64]; omega
      have HS := Lib.hid (show s.size - (t - n) = o2 + n by omega)
      have HE : Hid (∀ (a b : Nat), a = o2 → b = o2 + n → s.extract a b = txt (r.take n)) := Lib.hid (fun a b ha hb => by rw [ha, hb]; exact HP.out)
      go_enter Try.func59, Try.ntmps59
      go_wp2_with (go_at_call 11; refine (H.out _).mono ?_; unfold rOut; dsimp only; rw [HT.out, HO.out]; rintro e w2 ⟨rfl, rfl⟩)
      go_ret2
      exact ⟨by rw [HR.out, HK.out]; simp only [rdOut, sVal]; rw [HD.out, HS.out, HP.out]; rfl, rfl⟩
    · have HK := Lib.hid (show takeL n r = none by unfold takeL; rw [HT.out, if_neg hf])
      have g1 : decide ((t : Int) < (n : Int)) = true := decide_eq_true (by omega)
      go_enter Try.func59, Try.ntmps59
      go_wp2_with (go_at_call 11; refine (H.out _).mono ?_; unfold rOut; dsimp only; rw [HT.out, HO.out]; rintro e w2 ⟨rfl, rfl⟩)
      go_ret2
      exact ⟨by rw [HR.out, HK.out]; rfl, rfl⟩
end Go.Proofs.Ytkpajmgbiepmbaa
