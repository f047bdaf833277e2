/- Layer 17: what the developers' table is asked, proved. -/
import Derived.Test.YtmeoednndfgffaaTaI
import Derived.Test.YtmeoednndfgffaaTbKS
import Derived.Test.YtmeoednndfgffaaTbKU
import Derived.Test.YtmeoednndfgffaaTbKI
namespace Go.Proofs.Ytmeoednndfgffaa
open Go Go.ChangeShapes Go.WideShapes Go.ChangeAt Go.RowKit
set_option linter.unusedVariables false
set_option linter.unusedSimpArgs false
def TabS0 : Blks → Blks → World → Value → List Kp → Prop := TblS
/-- Changes in a row of their own. -/
theorem crow_of {w : World} {A : Option Addr} {c n : Nat} {l : List Kc} {B : Nat} (hn : n = l.length) (h : w.ownsRow B 51 3 (.slice A n c) n (l.flatMap chCS)) : CRow w w.heap.size A l := by
  intro j hj
  obtain ⟨b, off, e, hlt, h0⟩ := (RowC.own ch_lenS (by decide) h).2 j hj
  exact ⟨b, off, e, hlt, h0 0 _ rfl, h0 1 _ rfl, h0 2 _ rfl⟩
theorem crowU_of {w : World} {A : Option Addr} {c n : Nat} {l : List (KC Int)} {B : Nat} (hn : n = l.length) (h : w.ownsRow B 100 3 (.slice A n c) n (l.flatMap chCU)) : CRowG encU w w.heap.size A l := by
  intro j hj
  obtain ⟨b, off, e, hlt, h0⟩ := (RowC.own ch_lenU (by decide) h).2 j hj
  exact ⟨b, off, e, hlt, h0 0 _ rfl, h0 1 _ rfl, h0 2 _ rfl⟩
theorem crowI_of {w : World} {A : Option Addr} {c n : Nat} {l : List (KC Int)} {B : Nat} (hn : n = l.length) (h : w.ownsRow B 77 3 (.slice A n c) n (l.flatMap chCI)) : CRowG (fun x => .int .i64 x) w w.heap.size A l := by
  intro j hj
  obtain ⟨b, off, e, hlt, h0⟩ := (RowC.own ch_lenI (by decide) h).2 j hj
  exact ⟨b, off, e, hlt, h0 0 _ rfl, h0 1 _ rfl, h0 2 _ rfl⟩
theorem lim_le {n : Nat} (h : n ≤ 1000) : n ≤ limB := by unfold limB; omega
theorem below_self {w w' : World} (h : w = w') : Below w.heap.size w w' := h ▸ Below.refl _ _
theorem all_tv {S : Nat → Prop} {w : World} {v : Value} {p : Option Addr} {l : List Kp} (h : TvS S w v p l) (hS : ∀ k, S k → k < w.heap.size) : Calls Try.prog 25 #[v] w fun e w' => ∃ gf lb, ∃ T : Blks, e = .returned (.func (.func gf) #[] lb) ∧ (∀ args W, (callFunc gf args).run Try.prog W = .ok (.enter gf args) W) ∧ Below w.heap.size w w' ∧ (∀ k, T k → S k ∨ w.heap.size ≤ k ∧ k < w'.heap.size) ∧
    ∀ W, (∀ k, T k → W.heap[k]? = w'.heap[k]?) → SeqAt Fence.wide 7 Try.prog gf lb encK (NextK l) (Ks T) (fun xs => xs.length = l.length) W := by
  refine (allxS h).mono ?_
  rintro e w' ⟨gf, lb, rfl, he, hb, hs, hc, hq⟩
  refine ⟨gf, lb, fun k => S k ∨ k = w.heap.size, rfl, he, hb, fun k hk => hk.elim .inl (fun h => .inr ⟨by omega, by omega⟩), fun W hW => ?_⟩
  refine hq 7 _ W ((hW _ (.inr rfl)).trans hc) ?_
  exact ((h.at_.on hb).mono (T := fun k => S k ∨ k = w.heap.size) fun k hk _ => .inl hk).stay fun k hk _ => hW k hk
theorem tabC : TabC TabS0 where
  rise h := h.rise
  wr h := h.wr
  lt h := h.lt
  ch h hc hs := h.ch hc hs
  new w := newS w
  get k h _ := by
    obtain ⟨p, S, ht, _⟩ := h.tv
    exact (getTS k ht).mono fun e w' ⟨h1, h2⟩ => ⟨h1, below_self h2⟩
  put k x h hl := putTS k x h (lim_le hl)
  del k h hl := delTS k h (lim_le hl)
  len h _ := by
    obtain ⟨p, S, ht, _⟩ := h.tv
    exact (lenS ht).mono fun e w' ⟨h1, h2⟩ => ⟨h1, below_self h2⟩
  copy h _ := by
    obtain ⟨p, S, ht, hs⟩ := h.tv
    refine (copyS ht).mono ?_
    rintro e w' ⟨rfl, rfl⟩
    exact ⟨_, _, _, rfl, tab_newS ht.at_ ht.rise, fun k hk => by rw [hk]; exact Nat.le_refl _, fun k hk => hk.elim (fun h => .inr (by rw [h]; exact Nat.le_refl _)) (fun h => .inl (hs k h.1)), (Below.refl _ _).alloc (Nat.le_refl _) _⟩
  all h _ := by
    have hlt := h.lt
    obtain ⟨p, S, ht, hs⟩ := h.tv
    refine (all_tv ht (fun k hk => hlt k (hs k hk).1)).mono ?_
    rintro e w' ⟨gf, lb, T, h1, h2, h3, h4, h5⟩
    exact ⟨gf, lb, T, h1, h2, h3, fun k hk => (h4 k hk).imp (hs k) id, h5⟩
  frm := by
    intro D R w v l key h _
    have hlt := h.lt
    obtain ⟨p, S, ht, hs⟩ := h.tv
    refine (fromS key ht).mono ?_
    rintro e w' ⟨rfl, hq, hq2, hsz, hb⟩
    refine ⟨_, _, fun k => S k ∨ k = w.heap.size ∨ k = w.heap.size + 1, rfl, enters_of Try.func39 (by kernel_rfl) rfl, hb, fun k hk => ?_, fun W hW => ?_⟩
    · rcases hk with hk | rfl | rfl
      · exact .inl (hs k hk)
      · exact .inr ⟨Nat.le_refl _, by omega⟩
      · exact .inr ⟨by omega, by omega⟩
    · refine from_seqS 7 _ p l key _ _ W ((hW _ (.inr (.inr rfl))).trans hq) ((hW _ (.inr (.inl rfl))).trans hq2) ?_ ht.rise
      exact ((ht.at_.on hb).mono (T := fun k => S k ∨ k = w.heap.size ∨ k = w.heap.size + 1) fun k hk _ => .inl hk).stay fun k hk _ => hW k hk
  diff h h' hl := by
    obtain ⟨p, S, ht, _⟩ := h.tv
    obtain ⟨p', S', ht', _⟩ := h'.tv
    refine (diffS ht ht' hl).mono ?_
    rintro e w' ⟨A, c, rfl, ho, hb⟩
    exact ⟨A, c, rfl, crow_of rfl ho, hb⟩
  apply cs h hl hA := applyS cs h hl hA
theorem tabN : TabN TabS0 where
  put k x w := by
    go_enter Try.func13, Try.ntmps13
    go_wp2
    go_end0
    exact ⟨rfl, Below.refl _ _⟩
  get k w := (getTS k (tv_nilS w)).mono fun e w' ⟨h1, h2⟩ => ⟨h1, below_self h2⟩
  del k w := by
    have HG := Lib.hid (getTS k (tv_nilS w))
    go_enter Try.func15, Try.ntmps15
    go_wp2_with (go_at_call 11; go_loud (refine HG.out.mono ?_; rintro en w3 ⟨rfl, rfl⟩))
    go_ret
    exact ⟨by simp, Below.refl _ _⟩
  len w := (lenS (tv_nilS w)).mono fun e w' ⟨h1, h2⟩ => ⟨h1, below_self h2⟩
  copy w := by
    refine (copyS (tv_nilS w)).mono ?_
    rintro e w' ⟨rfl, rfl⟩
    obtain ⟨D, R, h1, h2⟩ := new_tabS w
    exact ⟨D, R, _, rfl, h1, h2, (Below.refl _ _).alloc (Nat.le_refl _) _⟩
  all w := by
    refine (all_tv (tv_nilS w) (fun k h => h.elim)).mono ?_
    rintro e w' ⟨gf, lb, T, h1, h2, h3, h4, h5⟩
    exact ⟨gf, lb, T, h1, h2, h3, fun k hk => (h4 k hk).elim (fun h => h.elim) id, h5⟩
  diff w := by
    refine (diffS (tv_nilS w) (tv_nilS w) (by simp)).mono ?_
    rintro e w' ⟨A, c, rfl, ho, hb⟩
    have h0 : diffK (⟨#[]⟩ : ByteArray) [] [] = [] := by rw [diffK]
    rw [h0]
    exact ⟨A, c, rfl, hb⟩
def TabI0 : World → Value → List (KV Int) → Prop := fun w v l => ∃ D R, TblI D R w v l
theorem tabI : TabI TabI0 where
  on h hb := by
    obtain ⟨D, R, h⟩ := h
    exact ⟨D, R, h.on hb⟩
  new es A n c w hn hl hA := newI es A n c w hn hl hA
  diff h h' hl := by
    obtain ⟨D, R, h⟩ := h
    obtain ⟨D', R', h'⟩ := h'
    obtain ⟨p, S, ht, _⟩ := h.tv
    obtain ⟨p', S', ht', _⟩ := h'.tv
    refine (diffI ht ht' (by omega)).mono ?_
    rintro e w' ⟨A, c, rfl, ho, hb⟩
    exact ⟨A, c, rfl, crowI_of rfl ho, hb⟩
def TabU0 : Blks → Blks → World → Value → List Ku → Prop := TblU
theorem tabU : TabU TabU0 where
  rise h := h.rise
  wr h := h.wr
  lt h := h.lt
  ch h hc hs := h.ch hc hs
  new w := newU w
  get k h _ := by
    obtain ⟨p, S, ht, _⟩ := h.tv
    exact (getTU k ht).mono fun e w' ⟨h1, h2⟩ => ⟨h1, below_self h2⟩
  put k x h hl := putTU k x h (lim_le hl)
  len h _ := by
    obtain ⟨p, S, ht, _⟩ := h.tv
    exact (lenU ht).mono fun e w' ⟨h1, h2⟩ => ⟨h1, below_self h2⟩
  diff h h' hl := by
    obtain ⟨p, S, ht, _⟩ := h.tv
    obtain ⟨p', S', ht', _⟩ := h'.tv
    refine (diffU ht ht' hl).mono ?_
    rintro e w' ⟨A, c, rfl, ho, hb⟩
    exact ⟨A, c, rfl, crowU_of rfl ho, hb⟩
  apply cs h hl hA := applyU cs h hl hA
end Go.Proofs.Ytmeoednndfgffaa
