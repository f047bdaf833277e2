/- The walks of All and of the iterator that it hands back. -/
import Derived.Test.YtkcnmajjfljilaaGreatDoorFraFA
import Derived.Test.YtkcnmajjfljilaaGreatDoorRegAll
import Derived.RangeFuncCalls
import Derived.RangeFuncLeaves
import Derived.Shelf.Abstract
import Derived.Shelf.RegionOpen
import Derived.OwnWalkIn
import Derived.TacticsInMore
import Derived.LoopNIn
import Derived.LoopIn
namespace Go.Proofs.YtkcnmajjfljilaaGreatDoor
attribute [local go_sem] Oper.semAt_some
open Go.ChangeShapes Go.WideShapes Go.ChangeAt Go.RowKit Go.Shelf
open Go.Lib (byteCells byteCells_length byteCells_append strCells)
set_option linter.unusedVariables false

theorem Buf.caps {B : Nat} {A : Option Addr} {n c : Nat} {bs : List UInt8} {w : World} (h : Buf B A n c bs w) : n ≤ c ∧ c ≤ maxLen ∧ (A = none ∨ ∃ g, A = some ⟨g, 0, none⟩ ∧ B ≤ g) := by
  rcases h.2.2.2 with ⟨hv, h0⟩ | ⟨g, cap, cur, hv, hg, _, h1, h2, _⟩
  · injection hv with h1 h2 h3
    exact ⟨by omega, by rw [h3]; decide, .inl h1⟩
  · injection hv with e1 e2 e3
    subst e1 e3
    exact ⟨h1, h2, .inr ⟨g, rfl, hg⟩⟩

/-- What All hands back: its function over a box that holds the copy. -/
def AllPost (l : List UInt8) (w : World) (e : Ending) (w' : World) : Prop :=
  ∃ g A c, e = .returned (.func (.func 159) #[] #[.pointer (some ⟨g, 0, none⟩)]) ∧ w.heap.size ≤ g ∧ Boxed w' g 30 (.slice A l.length c) ∧ Buf w.heap.size A l.length c l w' ∧ (∀ a, A = some a → a.block < g) ∧ Below w.heap.size w w'
theorem all_any (l : List UInt8) (len c : Nat) (A : Option Addr) (w : World) (hl : len = l.length) (hm : len ≤ 1099511627776) (hr : BytesAt w w.heap.size A l) :
    Calls Tryz.prog 107 #[.slice A len c] w (AllPost l w) := by
  have H := Lib.hid (clone_any l len c A w hl hm w.heap.size (Nat.le_refl _) hr)
  clear hl hr
  go_enter Tryz.func107, Tryz.ntmps107
  go_wp2_with (go_at_call 106; refine H.out.mono ?_; rintro e w1 ⟨A1, c1, rfl, ho, hb⟩; have HO := Lib.hid ho; have HB := Lib.hid hb; clear ho hb)
  go_ret
  refine ⟨w1.heap.size, A1, c1, by simp, HB.out.size, Boxed.new _ _ _, HO.out.alloc _, fun a ha => ?_, HB.out.alloc HB.out.size _⟩
  exact (HO.out.2.2.lt _ (by rw [ha]; rfl)).2

/-- What is handed out: the place, and bytes in new memory. -/
structure It where
  at_ : Nat
  a : Option Addr
  c : Nat
  bs : List UInt8
abbrev It.enc (x : It) : Array Value := #[.int .i64 (x.at_ : Int), .slice x.a x.bs.length x.c]
def bss (xs : List It) : List (List UInt8) := xs.map It.bs
theorem bss_nil : bss [] = [] := rfl
theorem bss_snoc (xs : List It) (x : It) : bss (xs ++ [x]) = bss xs ++ [x.bs] := by simp [bss]
theorem bss_length (xs : List It) : (bss xs).length = xs.length := by simp [bss]
/-- What is known of what comes behind pre. -/
def Comes (l : List UInt8) (E : Nat) (pre : List It) (x : It) (W : World) : Prop :=
  x.at_ = tot (bss pre) ∧ Sofar l (bss (pre ++ [x])) ∧ Buf E x.a x.bs.length x.c x.bs W
/-- The blocks from D0 on, below D1, lie as they lay. -/
structure Mid (D0 D1 : Nat) (U V : World) : Prop where
  size : U.heap.size ≤ V.heap.size
  block : ∀ k, D0 ≤ k → k < D1 → V.heap[k]? = U.heap[k]?
theorem Mid.refl (D0 D1 : Nat) (U : World) : Mid D0 D1 U U := ⟨Nat.le_refl _, fun _ _ _ => rfl⟩
theorem Mid.trans {D0 D1 : Nat} {a b c : World} (h : Mid D0 D1 a b) (k : Mid D0 D1 b c) : Mid D0 D1 a c := ⟨Nat.le_trans h.size k.size, fun i h1 h2 => (k.block i h1 h2).trans (h.block i h1 h2)⟩
theorem Mid.grown {D0 D1 : Nat} {a b c : World} (h : Mid D0 D1 a b) (hD : D1 ≤ a.heap.size) (hg : b.grownBy c none) : Mid D0 D1 b c := ⟨hg.size, fun i _ h2 => hg.block i (by have := h.size; omega) (by simp)⟩
theorem Mid.of_below {D0 D1 : Nat} {b c : World} (hD : D1 ≤ b.heap.size) (hb : Below b.heap.size b c) : Mid D0 D1 b c := ⟨hb.size, fun i _ h2 => hb.block i (by omega)⟩
theorem Mid.boxed {D0 g : Nat} {a b : World} {t : TypeId} {v : Value} (h : Mid D0 (g + 1) a b) (hg : D0 ≤ g) (hb : Boxed a g t v) : Boxed b g t v := (h.block g hg (by omega)).trans hb
theorem grown_of_below {u v : World} (h : Below u.heap.size u v) : u.grownBy v none := ⟨h.os, h.tape, h.output, h.size, fun k hk _ => h.block k hk⟩
theorem Mid.bytes {D0 D1 B : Nat} {a b : World} {A : Option Addr} {l : List UInt8} (h : Mid D0 D1 a b) (hA : ∀ x, A = some x → D0 ≤ x.block ∧ x.block < D1) (hb : BytesAt a B A l) : BytesAt b B A l := by
  intro j hj
  obtain ⟨g, off, e, hlt, hc⟩ := hb j hj
  have hx := hA _ e
  exact ⟨g, off, e, hlt, (World.cell?_of_block (a := ⟨g, _, none⟩) (h.block g hx.1 hx.2)).trans hc⟩

set_option maxRecDepth 100000 in
set_option maxHeartbeats 2000000 in
theorem all_seq (n : Nat) (hn : 1 ≤ n) (l : List UInt8) (g D0 c : Nat) (A : Option Addr) (w0 : World) (hg1 : g + 1 ≤ w0.heap.size) (hg0 : D0 ≤ g) (hbox : Boxed w0 g 30 (.slice A l.length c)) (hl : l.length ≤ 1099511627776)
    (hbuf : Buf D0 A l.length c l w0) (hA : ∀ a, A = some a → a.block < g) :
    SeqMem Fence.wide n Tryz.prog 159 #[.pointer (some ⟨g, 0, none⟩)] It.enc (Comes l w0.heap.size) (Mid D0 (g + 1)) (fun xs => bss xs = frs l) w0 := by
  intro L J Jx W hW hJ hJx hY h0
  have HC := Lib.hid hbuf.caps
  have HLM := Lib.hid hl
  have HBX := Lib.hid hbox
  have HBY := Lib.hid hbuf.bytes
  have HAB := Lib.hid (show ∀ x, A = some x → D0 ≤ x.block ∧ x.block < g + 1 from fun x hx => by
    obtain ⟨_, _, (h | ⟨b, h, hb⟩)⟩ := hbuf.caps
    · rw [h] at hx; cases hx
    · have := hA x hx
      rw [h] at hx
      injection hx with hx
      subst hx
      exact ⟨hb, by omega⟩)
  have HG1 := Lib.hid hg1
  have HG0 := Lib.hid hg0
  have HJ := Lib.hid hJ
  have HY := Lib.hid hY
  clear hbox hbuf hA hJ hJx hY hg1 hg0
  obtain ⟨len, hlen⟩ : ∃ len, l.length = len := ⟨_, rfl⟩
  rw [hlen] at hl HBX HC
  have HLEN := Lib.hid hlen
  clear hlen
  refine callsIn_of_wp Tryz.func159 rfl trivial ?_ rfl
  simp only [Tryz.ntmps159, List.size_toArray, List.length_cons, List.length_nil, Nat.reduceAdd, Nat.reduceSub, Array.replicate_succ, Array.replicate_zero, List.push_toArray, List.append_toArray, List.nil_append, List.cons_append]
  gi_wp2
  gi_loopw [3] (fun i wr => ∃ pre : List It, i = .int .i64 ((tot (bss pre) : Nat) : Int) ∧ Hid (Sofar l (bss pre)) ∧ J pre wr ∧ Mid D0 (g + 1) w0 wr) (fun i _ => len - (intOf i).toNat)
  case atStart => exact ⟨[], rfl, Lib.hid (Sofar.start l), h0, hW⟩
  case round =>
    obtain ⟨pre, rfl, HSO, hJp, hmid⟩ := hrel
    have hbx := hmid.boxed HG0.out HBX.out
    have c0 := hbx.cell
    have HBR := Lib.hid (hmid.bytes HAB.out HBY.out)
    have HJP := Lib.hid hJp
    have HMID := Lib.hid hmid
    have hto : tot (bss pre) ≤ len := by have := HSO.out.1; rwa [HLEN.out] at this
    obtain ⟨o, ho⟩ : ∃ o, tot (bss pre) = o := ⟨_, rfl⟩
    rw [ho] at hto ⊢
    have HO := Lib.hid ho
    have hlc := HC.out.1
    have hcm := HC.out.2.1
    have hcap : c ≤ 9223372036854775807 := by unfold maxLen at hcm; omega
    clear hJp hmid hbx ho
    have DR := HBR.out.drop o c (by rw [HLEN.out]; exact hto) (by rw [HLEN.out]; exact hlc)
    obtain ⟨_, _, (hA | ⟨b, hA, hb⟩)⟩ := HC.out
    · subst hA
      have hnil := BytesAt.none_ HBR.out
      have hlen := HLEN.out
      rw [hnil] at hlen
      obtain rfl : len = 0 := hlen.symm
      obtain rfl : o = 0 := by omega
      have HX := Lib.hid (show fst (l.drop 0) = none by rw [hnil]; exact fst_none_short (by simp))
      have HF := Lib.hid (fun W hW => first_any (l.drop 0) 0 c (by rw [List.drop_zero, HLEN.out]) hlc hcm w0.heap.size none W hW)
      have HBR0 := Lib.hid (show BytesAt wr w0.heap.size none (l.drop 0) from HBR.out)
      have HALL := Lib.hid (HSO.out.all (by rw [HO.out]; exact HX.out))
      clear hnil hlen DR
      gi_wp2_with (first | (refine ⟨trivial, ?_⟩; gi_at_call 160; refine (callsIn_wide.2 (HF.out _ HBR0.out)).mono ?_; intro e w1 h; obtain ⟨k, rfl, rfl⟩ := h.none_ HX.out; clear h))
      refine ⟨trivial, ?_⟩
      gi_wp2
      refine ⟨(fun f h => (by cases h)), ?_⟩
      gi_wp2
      refine bodyPost_ret (results_none rfl _ _ _) rfl ?_
      exact ⟨⟨_, rfl⟩, .inl ⟨pre, HALL.out.symm, HJ.out _ _ _ HJP.out (grown_of_below (below_drewN _ _))⟩⟩
    · subst hA
      by_cases hco : c = o
      · subst hco
        obtain rfl : len = c := by omega
        have HX := Lib.hid (show fst (l.drop len) = none by rw [List.drop_of_length_le (by rw [HLEN.out]; exact Nat.le_refl _)]; exact fst_none_short (by simp))
        have HF := Lib.hid (fun W hW => first_any (l.drop len) 0 0 (by rw [List.length_drop, HLEN.out, Nat.sub_self]) (Nat.le_refl _) (by decide) w0.heap.size (some ⟨b, 0, none⟩) W hW)
        have HBR0 := Lib.hid (show BytesAt wr w0.heap.size (some ⟨b, 0, none⟩) (l.drop len) by rwa [if_pos rfl] at DR)
        have HALL := Lib.hid (HSO.out.all (by rw [HO.out]; exact HX.out))
        clear DR
        gi_wp2_with (first | (refine ⟨trivial, ?_⟩; gi_at_call 160; refine (callsIn_wide.2 (HF.out _ HBR0.out)).mono ?_; intro e w1 h; obtain ⟨k, rfl, rfl⟩ := h.none_ HX.out; clear h))
        refine ⟨trivial, ?_⟩
        gi_wp2
        refine ⟨(fun f h => (by cases h)), ?_⟩
        gi_wp2
        refine bodyPost_ret (results_none rfl _ _ _) rfl ?_
        exact ⟨⟨_, rfl⟩, .inl ⟨pre, HALL.out.symm, HJ.out _ _ _ HJP.out (grown_of_below (below_drewN _ _))⟩⟩
      · have HBR0 := Lib.hid (show BytesAt wr w0.heap.size (some ⟨b, o, none⟩) (l.drop o) by rw [if_neg hco] at DR; simpa [add_at] using DR)
        have HF := Lib.hid (fun W hW => first_any (l.drop o) (len - o) (c - o) (by rw [List.length_drop, HLEN.out]) (by omega) (by omega) w0.heap.size (some ⟨b, o, none⟩) W hW)
        have hoi : (o : Int) ≤ (len : Int) := by omega
        clear DR
        rcases hx : fst (l.drop o) with _ | x
        · have HX := Lib.hid hx
          have HALL := Lib.hid (HSO.out.all (by rw [HO.out]; exact HX.out))
          clear hx
          gi_wp2_with (first | (refine ⟨trivial, ?_⟩; gi_at_call 160; refine (callsIn_wide.2 (HF.out _ HBR0.out)).mono ?_; intro e w1 h; obtain ⟨k, rfl, rfl⟩ := h.none_ HX.out; clear h))
          refine ⟨trivial, ?_⟩
          gi_wp2
          refine ⟨(fun f h => (by cases h)), ?_⟩
          gi_wp2
          refine bodyPost_ret (results_none rfl _ _ _) rfl ?_
          exact ⟨⟨_, rfl⟩, .inl ⟨pre, HALL.out.symm, HJ.out _ _ _ HJP.out (grown_of_below (below_drewN _ _))⟩⟩
        · have HX := Lib.hid hx
          have HNX := Lib.hid (HSO.out.next (x := x) (by rw [HO.out]; exact hx))
          have hx8 : o + 8 + x.length ≤ len := by have := (fst_back hx).1; rw [List.length_drop, HLEN.out] at this; omega
          have hxm : x.length ≤ 1099511627776 := by omega
          have HOE := Lib.hid (show o + 8 + x.length = tot (bss pre ++ [x]) by rw [tot_snoc, HO.out]; omega)
          clear hx
          gi_wp2_with (first
            | (refine ⟨trivial, ?_⟩; gi_at_call 160; refine (callsIn_wide.2 (HF.out _ HBR0.out)).mono ?_; intro e w1 h; obtain ⟨k, a, c1, rfl, rfl, hy1, hy2, hy3⟩ := h.some_ HX.out; clear h; have HY3 := Lib.hid hy3; clear hy3)
            | (refine ⟨trivial, ?_⟩; gi_at_call 106; refine (callsIn_wide.2 (clone_any x x.length c1 (some a) (wr.drewN k) rfl hxm w0.heap.size HMID.out.size (HY3.out.drewN k))).mono ?_; rintro e w2 ⟨A2, c2, rfl, hb2, hk2⟩; have hk3 := (below_drewN wr k).trans hk2; have HK2 := Lib.hid hk3; have HCM := Lib.hid (show Comes l w0.heap.size pre ⟨o, A2, c2, x⟩ w2 from ⟨HO.out.symm, by rw [bss_snoc]; exact HNX.out, hb2.more HMID.out.size⟩); obtain ⟨fn, tmps, assign, body, hy, hR⟩ := HY.out pre ⟨o, A2, c2, x⟩ w2 (HJ.out _ _ _ HJP.out (grown_of_below hk3)) HCM.out; have HR := Lib.hid hR; clear hb2 hk2 hk3 hR; dsimp only [It.enc] at hy))
          refine HR.out.mono ?_
          rintro e W3 (⟨rfl, hJ3, hk3⟩ | ⟨rfl, hJx3⟩)
          · have HJ3 := Lib.hid hJ3
            have HM3 := Lib.hid (HMID.out.trans ((Mid.of_below (by have := HMID.out.size; have := HG1.out; omega) HK2.out).trans hk3))
            clear hJ3 hk3
            gi_wp2
            go_roundw
            case rel => exact ⟨pre ++ [⟨o, A2, c2, x⟩], by rw [bss_snoc, ← HOE.out]; go_num, Lib.hid (by rw [bss_snoc]; exact HNX.out), HJ3.out, HM3.out⟩
            case measure => simp [intOf]; omega
          · have HJ3 := Lib.hid hJx3
            clear hJx3
            gi_wp2
            refine bodyPost_ret (results_none rfl _ _ _) rfl ?_
            exact ⟨⟨_, rfl⟩, .inr ⟨_, HJ3.out⟩⟩
end Go.Proofs.YtkcnmajjfljilaaGreatDoor
