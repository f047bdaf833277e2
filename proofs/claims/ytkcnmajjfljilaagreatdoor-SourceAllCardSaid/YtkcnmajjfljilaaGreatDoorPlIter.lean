/- place.begun: the names under which files are made ready, one by one. -/
import Derived.Test.YtkcnmajjfljilaaGreatDoorPlB
import Derived.Test.YtkcnmajjfljilaaGreatDoorRegAll
import Derived.RangeFuncBox
import Derived.OwnWalkIn
import Derived.TacticsInMore
import Derived.Shelf.RegionOpen
namespace Go.Proofs.YtkcnmajjfljilaaGreatDoor
attribute [local go_sem] Oper.semAt_some
open Go Go.ChangeShapes Go.WideShapes Go.ChangeAt Go.RowKit Go.ChangeMaps Go.MapKept
set_option linter.unusedVariables false

def hasTmp (x : Nm) : Bool := Lib.hasPrefix x [116, 109, 112, 46]
def tmps (ns : List Nm) : List Nm := ns.filter hasTmp
theorem tmps_take (ns : List Nm) (k : Nat) (h : k < ns.length) : tmps (ns.take (k + 1)) = tmps (ns.take k) ++ (if hasTmp ns[k] = true then [ns[k]] else []) := by
  unfold tmps
  rw [List.take_add_one, List.getElem?_eq_getElem h, List.filter_append]
  simp [List.filter_cons]
/-- The blocks in S stay. -/
def Kept (S : Nat → Prop) (U V : World) : Prop := Ch (fun k => ¬ S k) U V
section
variable {S : Nat → Prop} {U V W : World}
theorem Kept.trans (h : Kept S U V) (k : Kept S V W) : Kept S U W := Ch.trans h k
theorem Kept.grown (h : U.grownBy V none) : Kept S U V := (Ch.refl _ U).grown h (fun k e => by cases e)
theorem Kept.same {k : Nat} (h : Kept S U V) (h1 : S k) (hk : k < U.heap.size) : V.heap[k]? = U.heap[k]? := Ch.block h k hk fun hn => hn h1
theorem Kept.cells {k : Nat} {c : Array Value} {t : TypeId} (h : Kept S U V) (h1 : S k) (hc : Cells U k c t) : Cells V k c t := (h.same h1 hc.lt).trans hc
/-- Names in a row that is kept. -/
structure NamesK (S : Nat → Prop) (w : World) (A : Option Addr) (ns : List Nm) : Prop where
  at_ : NamesAt w A ns
  low : ∀ j, j < ns.length → ∀ x, A = some x → S x.block ∧ x.block < w.heap.size
theorem NamesK.kept {A : Option Addr} {ns : List Nm} (h : NamesK S U A ns) (k : Kept S U V) : NamesK S V A ns := by
  refine ⟨fun j hj => ?_, fun j hj x hx => ⟨(h.low j hj x hx).1, Nat.lt_of_lt_of_le (h.low j hj x hx).2 (Ch.size k)⟩⟩
  obtain ⟨g, e, hc⟩ := h.at_ j hj
  have hl := h.low j hj _ e
  exact ⟨g, e, (World.cell?_of_block (a := ⟨g, j, none⟩) (k.same hl.1 hl.2)).trans hc⟩
end
set_option maxRecDepth 100000 in
set_option maxHeartbeats 2000000 in
theorem begun_seq (n : Nat) (hn : 1 ≤ n) (ns : List Nm) (hlen : ns.length ≤ 9223372036854775807) (g c : Nat) (S : Nat → Prop) (A : Option Addr) (w0 : World) (hg : S g) (hbox : Cells w0 g #[.slice A ns.length c] 92) (hA : NamesK S w0 A ns) :
    SeqMem Fence.wide n Tryz.prog 131 #[.pointer (some ⟨g, 0, none⟩)] (fun x : Nm => #[.string (txt x)]) (fun pre x _ => ∃ post, tmps ns = pre ++ x :: post) (Kept S) (fun xs => xs = tmps ns) w0 := by
  intro L J Jx W hW hJ hJx hY h0
  have HBX := Lib.hid hbox
  have HA := Lib.hid hA
  have HJ := Lib.hid hJ
  have HY := Lib.hid hY
  have HG := Lib.hid hg
  have c0 : W.cell? ⟨g, 0, none⟩ = some (.slice A ns.length c) := (hW.cells hg hbox).cell 0
  clear hbox hA hJ hJx hY hg
  refine callsIn_of_wp Tryz.func131 rfl trivial ?_ rfl
  simp only [Tryz.ntmps131, List.size_toArray, List.length_cons, List.length_nil, Nat.reduceAdd, Nat.reduceSub, Array.replicate_succ, Array.replicate_zero, List.push_toArray, List.append_toArray, List.nil_append, List.cons_append]
  gi_wp2
  gi_loopw [7] (fun i wr => ∃ k : Nat, i = .int .i64 (k : Int) ∧ k ≤ ns.length ∧ J (tmps (ns.take k)) wr ∧ Kept S w0 wr) (fun i _ => ns.length - (intOf i).toNat)
  case atStart => exact ⟨0, rfl, Nat.zero_le _, h0, hW⟩
  case round =>
    obtain ⟨k, rfl, hk, hJp, hmid⟩ := hrel
    have HJP := Lib.hid hJp
    have HMID := Lib.hid hmid
    clear hJp hmid
    by_cases hlt : k < ns.length
    · obtain ⟨q, hq, hcell⟩ := (HA.out.kept HMID.out).at_ k hlt
      subst hq
      have HT := Lib.hid (tmps_take ns k hlt)
      obtain ⟨x, hx⟩ : ∃ x, ns[k] = x := ⟨_, rfl⟩
      rw [hx] at hcell HT
      have HALL := Lib.hid (show hasTmp x = true → ∃ post, tmps ns = tmps (ns.take k) ++ x :: post from fun h => by
        refine ⟨tmps (ns.drop (k + 1)), ?_⟩
        have : tmps ns = tmps (ns.take (k + 1)) ++ tmps (ns.drop (k + 1)) := by
          unfold tmps; rw [← List.filter_append, List.take_append_drop]
        rw [this, HT.out, if_pos h]; simp)
      clear hx
      cases hp : hasTmp x with
      | true =>
        have hp2 : Lib.hasPrefix (txt x).data.toList (⟨#[116, 109, 112, 46]⟩ : ByteArray).data.toList = true := hp
        rw [hp, if_pos rfl] at HT
        obtain ⟨fn, tmps_, assign, body, hy, hR⟩ := HY.out _ x wr HJP.out (HALL.out hp)
        have HR := Lib.hid hR
        clear hR
        gi_wp2_with (first | (refine ⟨trivial, ?_⟩; gi_at_call 132; refine (callsIn_wide.2 (Tryz.strings_HasPrefix _ _ _)).mono ?_; rintro e w1 ⟨rfl, rfl⟩))
        refine HR.out.mono ?_
        rintro e W3 (⟨rfl, hJ3, hk3⟩ | ⟨rfl, hJx3⟩)
        · have HJ3 := Lib.hid hJ3
          have HM3 := Lib.hid (HMID.out.trans hk3)
          clear hJ3 hk3
          gi_wp2
          go_roundw
          case rel => exact ⟨k + 1, by go_num, by omega, by rw [HT.out]; exact HJ3.out, HM3.out⟩
          case measure => simp [intOf]; omega
        · have HJ3 := Lib.hid hJx3
          clear hJx3
          gi_wp2
          refine bodyPost_ret (results_none rfl _ _ _) rfl ?_
          exact ⟨⟨_, rfl⟩, .inr ⟨_, HJ3.out⟩⟩
      | false =>
        have hp2 : Lib.hasPrefix (txt x).data.toList (⟨#[116, 109, 112, 46]⟩ : ByteArray).data.toList = false := hp
        rw [hp, if_neg (by simp)] at HT
        gi_wp2_with (first | (refine ⟨trivial, ?_⟩; gi_at_call 132; refine (callsIn_wide.2 (Tryz.strings_HasPrefix _ _ _)).mono ?_; rintro e w1 ⟨rfl, rfl⟩))
        refine ⟨(fun f h => (by cases h)), ?_⟩
        gi_wp2
        exact ⟨⟨k + 1, by go_num, by omega, by rw [HT.out, List.append_nil]; exact HJP.out, HMID.out⟩, by simp [intOf]; omega⟩
    · have hke : k = ns.length := by omega
      have h := HJP.out
      rw [List.take_of_length_le (by omega)] at h
      have HE := Lib.hid h
      clear h hke
      gi_wp2
      go_end0
      exact ⟨⟨_, rfl⟩, .inl ⟨_, rfl, HE.out⟩⟩
end Go.Proofs.YtkcnmajjfljilaaGreatDoor
