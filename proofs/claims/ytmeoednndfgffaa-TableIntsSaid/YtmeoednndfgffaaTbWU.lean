/- Layer 17, walked: a tree of uint8 gone over. -/
import Derived.Test.YtmeoednndfgffaaTbAU
import Derived.Test.YtmeoednndfgffaaTbQ
namespace Go.Proofs.Ytmeoednndfgffaa
attribute [local go_sem] Oper.semAt_some
open Go Go.ChangeShapes Go.WideShapes Go.ChangeAt Go.RowKit
set_option linter.unusedVariables false
set_option linter.unusedSimpArgs false
abbrev encKVU (x : KV Int) : Array Value := #[.string x.k, .int .u8 x.v]
set_option maxHeartbeats 4000000 in
set_option maxRecDepth 40000 in
theorem walkU {B L m : Nat} {J Jx : List (KV Int) → World → Prop} {T : Nat → Prop} {M : List (KV Int)} (hJ : LoopOwn B J)
    (hY : ∀ pre x U, J pre U → NextT M pre x U → YieldAt Fence.wide m Try.prog L (encKVU x) U fun e V => (e = .returned (.bool true) ∧ J (pre ++ [x]) V ∧ Ks T U V) ∨ (e = .returned (.bool false) ∧ Jx (pre ++ [x]) V ∧ Ks T U V)) :
    ∀ (n : Nat) (l : List (KV Int)) (v : Value) (pre post : List (KV Int)) (U : World), l.length ≤ n → TrU T U v l → M = pre ++ (l ++ post) → J pre U →
    Calls Try.prog 68 #[v, .func (.yield L) #[] #[]] U (WkPost J Jx T pre l U) := by
  intro n
  induction n with
  | zero =>
    intro l v pre post U hn h hM h0
    rcases h.open_ with ⟨rfl, rfl⟩ | ⟨b, x, a, c, l1, r1, rfl, rfl, hS, hb, ha, hc⟩
    · skip
      have HJ := Lib.hid (hJ.grow h0 (grown_below (Below.refl U.heap.size U).drew))
      have HK := Lib.hid (Ks.below (S := T) (Below.refl U.heap.size U).drew)
      clear hJ hY h hn hM h0
      refine (callsIn_wide (n := 9)).1 (callsIn_of_wp Try.func68 rfl trivial ?_ rfl)
      simp only [Try.ntmps68, List.size_toArray, List.length_cons, List.length_nil, Nat.reduceAdd, Nat.reduceSub, Array.replicate_succ, Array.replicate_zero, List.push_toArray, List.append_toArray, List.nil_append, List.cons_append]
      gi_wp2
      have hS : True := trivial
      refine I_begin 31 (fun W => True) rfl (by kernel_rfl) ?_
      refine I_take (i := 0) (t := 5) (v := (.pointer none)) (fuel := 30) rfl rfl (by kernel_rfl) (by kernel_rfl) (by kernel_rfl) (fun _ _ _ h => h) (.inl ⟨rfl, fun W hW => by simp [execOp, Act.eval, go_sem]⟩) hS ?_
      simp only [List.setIfInBounds_toArray, List.set_cons_succ, List.set_cons_zero]
      refine I_take (i := 1) (t := 6) (v := (.bool true)) (fuel := 29) rfl rfl (by kernel_rfl) (by kernel_rfl) (by kernel_rfl) (fun _ _ _ h => h) (.inl ⟨rfl, fun W hW => by simp [execOp, Act.eval, go_sem]⟩) hS ?_
      simp only [List.setIfInBounds_toArray, List.set_cons_succ, List.set_cons_zero]
      refine I_take (i := 2) (t := 7) (v := (.bool true)) (fuel := 28) rfl rfl (by kernel_rfl) (by kernel_rfl) (by kernel_rfl) (fun _ _ _ h => h) (.inl ⟨rfl, fun W hW => by simp [execOp, Act.eval, go_sem]⟩) hS ?_
      simp only [List.setIfInBounds_toArray, List.set_cons_succ, List.set_cons_zero]
      refine I_take (i := 3) (t := 8) (v := undef) (fuel := 27) rfl rfl (by kernel_rfl) (by kernel_rfl) (by kernel_rfl) (fun _ _ _ h => h) (.inr ⟨rfl, rfl⟩) hS ?_
      simp only [List.setIfInBounds_toArray, List.set_cons_succ, List.set_cons_zero]
      refine I_take (i := 4) (t := 9) (v := undef) (fuel := 26) rfl rfl (by kernel_rfl) (by kernel_rfl) (by kernel_rfl) (fun _ _ _ h => h) (.inr ⟨rfl, rfl⟩) hS ?_
      simp only [List.setIfInBounds_toArray, List.set_cons_succ, List.set_cons_zero]
      refine I_take (i := 5) (t := 10) (v := undef) (fuel := 25) rfl rfl (by kernel_rfl) (by kernel_rfl) (by kernel_rfl) (fun _ _ _ h => h) (.inr ⟨rfl, rfl⟩) hS ?_
      simp only [List.setIfInBounds_toArray, List.set_cons_succ, List.set_cons_zero]
      refine I_take (i := 6) (t := 11) (v := undef) (fuel := 24) rfl rfl (by kernel_rfl) (by kernel_rfl) (by kernel_rfl) (fun _ _ _ h => h) (.inr ⟨rfl, rfl⟩) hS ?_
      simp only [List.setIfInBounds_toArray, List.set_cons_succ, List.set_cons_zero]
      refine I_take (i := 7) (t := 12) (v := undef) (fuel := 23) rfl rfl (by kernel_rfl) (by kernel_rfl) (by kernel_rfl) (fun _ _ _ h => h) (.inr ⟨rfl, rfl⟩) hS ?_
      simp only [List.setIfInBounds_toArray, List.set_cons_succ, List.set_cons_zero]
      refine I_take (i := 8) (t := 13) (v := undef) (fuel := 22) rfl rfl (by kernel_rfl) (by kernel_rfl) (by kernel_rfl) (fun _ _ _ h => h) (.inr ⟨rfl, rfl⟩) hS ?_
      simp only [List.setIfInBounds_toArray, List.set_cons_succ, List.set_cons_zero]
      refine I_take (i := 9) (t := 14) (v := undef) (fuel := 21) rfl rfl (by kernel_rfl) (by kernel_rfl) (by kernel_rfl) (fun _ _ _ h => h) (.inr ⟨rfl, rfl⟩) hS ?_
      simp only [List.setIfInBounds_toArray, List.set_cons_succ, List.set_cons_zero]
      refine I_take (i := 10) (t := 15) (v := undef) (fuel := 20) rfl rfl (by kernel_rfl) (by kernel_rfl) (by kernel_rfl) (fun _ _ _ h => h) (.inr ⟨rfl, rfl⟩) hS ?_
      simp only [List.setIfInBounds_toArray, List.set_cons_succ, List.set_cons_zero]
      refine I_take (i := 11) (t := 16) (v := undef) (fuel := 19) rfl rfl (by kernel_rfl) (by kernel_rfl) (by kernel_rfl) (fun _ _ _ h => h) (.inr ⟨rfl, rfl⟩) hS ?_
      simp only [List.setIfInBounds_toArray, List.set_cons_succ, List.set_cons_zero]
      refine I_take (i := 12) (t := 17) (v := undef) (fuel := 18) rfl rfl (by kernel_rfl) (by kernel_rfl) (by kernel_rfl) (fun _ _ _ h => h) (.inr ⟨rfl, rfl⟩) hS ?_
      simp only [List.setIfInBounds_toArray, List.set_cons_succ, List.set_cons_zero]
      refine I_take (i := 13) (t := 18) (v := undef) (fuel := 17) rfl rfl (by kernel_rfl) (by kernel_rfl) (by kernel_rfl) (fun _ _ _ h => h) (.inr ⟨rfl, rfl⟩) hS ?_
      simp only [List.setIfInBounds_toArray, List.set_cons_succ, List.set_cons_zero]
      refine I_take (i := 14) (t := 19) (v := undef) (fuel := 16) rfl rfl (by kernel_rfl) (by kernel_rfl) (by kernel_rfl) (fun _ _ _ h => h) (.inr ⟨rfl, rfl⟩) hS ?_
      simp only [List.setIfInBounds_toArray, List.set_cons_succ, List.set_cons_zero]
      refine I_take (i := 15) (t := 20) (v := undef) (fuel := 15) rfl rfl (by kernel_rfl) (by kernel_rfl) (by kernel_rfl) (fun _ _ _ h => h) (.inr ⟨rfl, rfl⟩) hS ?_
      simp only [List.setIfInBounds_toArray, List.set_cons_succ, List.set_cons_zero]
      refine I_take (i := 16) (t := 21) (v := undef) (fuel := 14) rfl rfl (by kernel_rfl) (by kernel_rfl) (by kernel_rfl) (fun _ _ _ h => h) (.inr ⟨rfl, rfl⟩) hS ?_
      simp only [List.setIfInBounds_toArray, List.set_cons_succ, List.set_cons_zero]
      refine I_take (i := 17) (t := 22) (v := undef) (fuel := 13) rfl rfl (by kernel_rfl) (by kernel_rfl) (by kernel_rfl) (fun _ _ _ h => h) (.inr ⟨rfl, rfl⟩) hS ?_
      simp only [List.setIfInBounds_toArray, List.set_cons_succ, List.set_cons_zero]
      refine I_take (i := 18) (t := 23) (v := undef) (fuel := 12) rfl rfl (by kernel_rfl) (by kernel_rfl) (by kernel_rfl) (fun _ _ _ h => h) (.inr ⟨rfl, rfl⟩) hS ?_
      simp only [List.setIfInBounds_toArray, List.set_cons_succ, List.set_cons_zero]
      refine I_take (i := 19) (t := 24) (v := undef) (fuel := 11) rfl rfl (by kernel_rfl) (by kernel_rfl) (by kernel_rfl) (fun _ _ _ h => h) (.inr ⟨rfl, rfl⟩) hS ?_
      simp only [List.setIfInBounds_toArray, List.set_cons_succ, List.set_cons_zero]
      refine I_take (i := 20) (t := 25) (v := undef) (fuel := 10) rfl rfl (by kernel_rfl) (by kernel_rfl) (by kernel_rfl) (fun _ _ _ h => h) (.inr ⟨rfl, rfl⟩) hS ?_
      simp only [List.setIfInBounds_toArray, List.set_cons_succ, List.set_cons_zero]
      refine I_take (i := 21) (t := 26) (v := undef) (fuel := 9) rfl rfl (by kernel_rfl) (by kernel_rfl) (by kernel_rfl) (fun _ _ _ h => h) (.inr ⟨rfl, rfl⟩) hS ?_
      simp only [List.setIfInBounds_toArray, List.set_cons_succ, List.set_cons_zero]
      refine I_take (i := 22) (t := 27) (v := undef) (fuel := 8) rfl rfl (by kernel_rfl) (by kernel_rfl) (by kernel_rfl) (fun _ _ _ h => h) (.inr ⟨rfl, rfl⟩) hS ?_
      simp only [List.setIfInBounds_toArray, List.set_cons_succ, List.set_cons_zero]
      refine I_take (i := 23) (t := 28) (v := undef) (fuel := 7) rfl rfl (by kernel_rfl) (by kernel_rfl) (by kernel_rfl) (fun _ _ _ h => h) (.inr ⟨rfl, rfl⟩) hS ?_
      simp only [List.setIfInBounds_toArray, List.set_cons_succ, List.set_cons_zero]
      refine I_take (i := 24) (t := 29) (v := undef) (fuel := 6) rfl rfl (by kernel_rfl) (by kernel_rfl) (by kernel_rfl) (fun _ _ _ h => h) (.inr ⟨rfl, rfl⟩) hS ?_
      simp only [List.setIfInBounds_toArray, List.set_cons_succ, List.set_cons_zero]
      refine I_take (i := 25) (t := 30) (v := undef) (fuel := 5) rfl rfl (by kernel_rfl) (by kernel_rfl) (by kernel_rfl) (fun _ _ _ h => h) (.inr ⟨rfl, rfl⟩) hS ?_
      simp only [List.setIfInBounds_toArray, List.set_cons_succ, List.set_cons_zero]
      refine I_take (i := 26) (t := 31) (v := undef) (fuel := 4) rfl rfl (by kernel_rfl) (by kernel_rfl) (by kernel_rfl) (fun _ _ _ h => h) (.inr ⟨rfl, rfl⟩) hS ?_
      simp only [List.setIfInBounds_toArray, List.set_cons_succ, List.set_cons_zero]
      refine I_take (i := 27) (t := 32) (v := undef) (fuel := 3) rfl rfl (by kernel_rfl) (by kernel_rfl) (by kernel_rfl) (fun _ _ _ h => h) (.inr ⟨rfl, rfl⟩) hS ?_
      simp only [List.setIfInBounds_toArray, List.set_cons_succ, List.set_cons_zero]
      refine I_take (i := 28) (t := 33) (v := undef) (fuel := 2) rfl rfl (by kernel_rfl) (by kernel_rfl) (by kernel_rfl) (fun _ _ _ h => h) (.inr ⟨rfl, rfl⟩) hS ?_
      simp only [List.setIfInBounds_toArray, List.set_cons_succ, List.set_cons_zero]
      refine I_take (i := 29) (t := 34) (v := (.bool true)) (fuel := 1) rfl rfl (by kernel_rfl) (by kernel_rfl) (by kernel_rfl) (fun _ _ _ h => h) (.inl ⟨rfl, fun W hW => by simp [execOp, Act.eval, go_sem]⟩) hS ?_
      simp only [List.setIfInBounds_toArray, List.set_cons_succ, List.set_cons_zero]
      refine I_take (i := 30) (t := 4) (v := (.bool true)) (fuel := 0) rfl rfl (by kernel_rfl) (by kernel_rfl) (by kernel_rfl) (fun _ _ _ h => h) (.inl ⟨rfl, fun W hW => by simp [execOp, Act.eval, go_sem]⟩) hS ?_
      simp only [List.setIfInBounds_toArray, List.set_cons_succ, List.set_cons_zero]
      refine I_done (by kernel_rfl) ?_ 0
      gi_wp2
      go_ret
      exact .inl ⟨rfl, by rw [List.append_nil]; exact HJ.out, HK.out⟩
    · simp at hn
  | succ n ih =>
    intro l v pre post U hn h hM h0
    rcases h.open_ with ⟨rfl, rfl⟩ | ⟨b, x, a, c, l1, r1, rfl, rfl, hS, hb, ha, hc⟩
    · skip
      have HJ := Lib.hid (hJ.grow h0 (grown_below (Below.refl U.heap.size U).drew))
      have HK := Lib.hid (Ks.below (S := T) (Below.refl U.heap.size U).drew)
      clear hJ hY h hn hM h0 ih
      refine (callsIn_wide (n := 9)).1 (callsIn_of_wp Try.func68 rfl trivial ?_ rfl)
      simp only [Try.ntmps68, List.size_toArray, List.length_cons, List.length_nil, Nat.reduceAdd, Nat.reduceSub, Array.replicate_succ, Array.replicate_zero, List.push_toArray, List.append_toArray, List.nil_append, List.cons_append]
      gi_wp2
      have hS : True := trivial
      refine I_begin 31 (fun W => True) rfl (by kernel_rfl) ?_
      refine I_take (i := 0) (t := 5) (v := (.pointer none)) (fuel := 30) rfl rfl (by kernel_rfl) (by kernel_rfl) (by kernel_rfl) (fun _ _ _ h => h) (.inl ⟨rfl, fun W hW => by simp [execOp, Act.eval, go_sem]⟩) hS ?_
      simp only [List.setIfInBounds_toArray, List.set_cons_succ, List.set_cons_zero]
      refine I_take (i := 1) (t := 6) (v := (.bool true)) (fuel := 29) rfl rfl (by kernel_rfl) (by kernel_rfl) (by kernel_rfl) (fun _ _ _ h => h) (.inl ⟨rfl, fun W hW => by simp [execOp, Act.eval, go_sem]⟩) hS ?_
      simp only [List.setIfInBounds_toArray, List.set_cons_succ, List.set_cons_zero]
      refine I_take (i := 2) (t := 7) (v := (.bool true)) (fuel := 28) rfl rfl (by kernel_rfl) (by kernel_rfl) (by kernel_rfl) (fun _ _ _ h => h) (.inl ⟨rfl, fun W hW => by simp [execOp, Act.eval, go_sem]⟩) hS ?_
      simp only [List.setIfInBounds_toArray, List.set_cons_succ, List.set_cons_zero]
      refine I_take (i := 3) (t := 8) (v := undef) (fuel := 27) rfl rfl (by kernel_rfl) (by kernel_rfl) (by kernel_rfl) (fun _ _ _ h => h) (.inr ⟨rfl, rfl⟩) hS ?_
      simp only [List.setIfInBounds_toArray, List.set_cons_succ, List.set_cons_zero]
      refine I_take (i := 4) (t := 9) (v := undef) (fuel := 26) rfl rfl (by kernel_rfl) (by kernel_rfl) (by kernel_rfl) (fun _ _ _ h => h) (.inr ⟨rfl, rfl⟩) hS ?_
      simp only [List.setIfInBounds_toArray, List.set_cons_succ, List.set_cons_zero]
      refine I_take (i := 5) (t := 10) (v := undef) (fuel := 25) rfl rfl (by kernel_rfl) (by kernel_rfl) (by kernel_rfl) (fun _ _ _ h => h) (.inr ⟨rfl, rfl⟩) hS ?_
      simp only [List.setIfInBounds_toArray, List.set_cons_succ, List.set_cons_zero]
      refine I_take (i := 6) (t := 11) (v := undef) (fuel := 24) rfl rfl (by kernel_rfl) (by kernel_rfl) (by kernel_rfl) (fun _ _ _ h => h) (.inr ⟨rfl, rfl⟩) hS ?_
      simp only [List.setIfInBounds_toArray, List.set_cons_succ, List.set_cons_zero]
      refine I_take (i := 7) (t := 12) (v := undef) (fuel := 23) rfl rfl (by kernel_rfl) (by kernel_rfl) (by kernel_rfl) (fun _ _ _ h => h) (.inr ⟨rfl, rfl⟩) hS ?_
      simp only [List.setIfInBounds_toArray, List.set_cons_succ, List.set_cons_zero]
      refine I_take (i := 8) (t := 13) (v := undef) (fuel := 22) rfl rfl (by kernel_rfl) (by kernel_rfl) (by kernel_rfl) (fun _ _ _ h => h) (.inr ⟨rfl, rfl⟩) hS ?_
      simp only [List.setIfInBounds_toArray, List.set_cons_succ, List.set_cons_zero]
      refine I_take (i := 9) (t := 14) (v := undef) (fuel := 21) rfl rfl (by kernel_rfl) (by kernel_rfl) (by kernel_rfl) (fun _ _ _ h => h) (.inr ⟨rfl, rfl⟩) hS ?_
      simp only [List.setIfInBounds_toArray, List.set_cons_succ, List.set_cons_zero]
      refine I_take (i := 10) (t := 15) (v := undef) (fuel := 20) rfl rfl (by kernel_rfl) (by kernel_rfl) (by kernel_rfl) (fun _ _ _ h => h) (.inr ⟨rfl, rfl⟩) hS ?_
      simp only [List.setIfInBounds_toArray, List.set_cons_succ, List.set_cons_zero]
      refine I_take (i := 11) (t := 16) (v := undef) (fuel := 19) rfl rfl (by kernel_rfl) (by kernel_rfl) (by kernel_rfl) (fun _ _ _ h => h) (.inr ⟨rfl, rfl⟩) hS ?_
      simp only [List.setIfInBounds_toArray, List.set_cons_succ, List.set_cons_zero]
      refine I_take (i := 12) (t := 17) (v := undef) (fuel := 18) rfl rfl (by kernel_rfl) (by kernel_rfl) (by kernel_rfl) (fun _ _ _ h => h) (.inr ⟨rfl, rfl⟩) hS ?_
      simp only [List.setIfInBounds_toArray, List.set_cons_succ, List.set_cons_zero]
      refine I_take (i := 13) (t := 18) (v := undef) (fuel := 17) rfl rfl (by kernel_rfl) (by kernel_rfl) (by kernel_rfl) (fun _ _ _ h => h) (.inr ⟨rfl, rfl⟩) hS ?_
      simp only [List.setIfInBounds_toArray, List.set_cons_succ, List.set_cons_zero]
      refine I_take (i := 14) (t := 19) (v := undef) (fuel := 16) rfl rfl (by kernel_rfl) (by kernel_rfl) (by kernel_rfl) (fun _ _ _ h => h) (.inr ⟨rfl, rfl⟩) hS ?_
      simp only [List.setIfInBounds_toArray, List.set_cons_succ, List.set_cons_zero]
      refine I_take (i := 15) (t := 20) (v := undef) (fuel := 15) rfl rfl (by kernel_rfl) (by kernel_rfl) (by kernel_rfl) (fun _ _ _ h => h) (.inr ⟨rfl, rfl⟩) hS ?_
      simp only [List.setIfInBounds_toArray, List.set_cons_succ, List.set_cons_zero]
      refine I_take (i := 16) (t := 21) (v := undef) (fuel := 14) rfl rfl (by kernel_rfl) (by kernel_rfl) (by kernel_rfl) (fun _ _ _ h => h) (.inr ⟨rfl, rfl⟩) hS ?_
      simp only [List.setIfInBounds_toArray, List.set_cons_succ, List.set_cons_zero]
      refine I_take (i := 17) (t := 22) (v := undef) (fuel := 13) rfl rfl (by kernel_rfl) (by kernel_rfl) (by kernel_rfl) (fun _ _ _ h => h) (.inr ⟨rfl, rfl⟩) hS ?_
      simp only [List.setIfInBounds_toArray, List.set_cons_succ, List.set_cons_zero]
      refine I_take (i := 18) (t := 23) (v := undef) (fuel := 12) rfl rfl (by kernel_rfl) (by kernel_rfl) (by kernel_rfl) (fun _ _ _ h => h) (.inr ⟨rfl, rfl⟩) hS ?_
      simp only [List.setIfInBounds_toArray, List.set_cons_succ, List.set_cons_zero]
      refine I_take (i := 19) (t := 24) (v := undef) (fuel := 11) rfl rfl (by kernel_rfl) (by kernel_rfl) (by kernel_rfl) (fun _ _ _ h => h) (.inr ⟨rfl, rfl⟩) hS ?_
      simp only [List.setIfInBounds_toArray, List.set_cons_succ, List.set_cons_zero]
      refine I_take (i := 20) (t := 25) (v := undef) (fuel := 10) rfl rfl (by kernel_rfl) (by kernel_rfl) (by kernel_rfl) (fun _ _ _ h => h) (.inr ⟨rfl, rfl⟩) hS ?_
      simp only [List.setIfInBounds_toArray, List.set_cons_succ, List.set_cons_zero]
      refine I_take (i := 21) (t := 26) (v := undef) (fuel := 9) rfl rfl (by kernel_rfl) (by kernel_rfl) (by kernel_rfl) (fun _ _ _ h => h) (.inr ⟨rfl, rfl⟩) hS ?_
      simp only [List.setIfInBounds_toArray, List.set_cons_succ, List.set_cons_zero]
      refine I_take (i := 22) (t := 27) (v := undef) (fuel := 8) rfl rfl (by kernel_rfl) (by kernel_rfl) (by kernel_rfl) (fun _ _ _ h => h) (.inr ⟨rfl, rfl⟩) hS ?_
      simp only [List.setIfInBounds_toArray, List.set_cons_succ, List.set_cons_zero]
      refine I_take (i := 23) (t := 28) (v := undef) (fuel := 7) rfl rfl (by kernel_rfl) (by kernel_rfl) (by kernel_rfl) (fun _ _ _ h => h) (.inr ⟨rfl, rfl⟩) hS ?_
      simp only [List.setIfInBounds_toArray, List.set_cons_succ, List.set_cons_zero]
      refine I_take (i := 24) (t := 29) (v := undef) (fuel := 6) rfl rfl (by kernel_rfl) (by kernel_rfl) (by kernel_rfl) (fun _ _ _ h => h) (.inr ⟨rfl, rfl⟩) hS ?_
      simp only [List.setIfInBounds_toArray, List.set_cons_succ, List.set_cons_zero]
      refine I_take (i := 25) (t := 30) (v := undef) (fuel := 5) rfl rfl (by kernel_rfl) (by kernel_rfl) (by kernel_rfl) (fun _ _ _ h => h) (.inr ⟨rfl, rfl⟩) hS ?_
      simp only [List.setIfInBounds_toArray, List.set_cons_succ, List.set_cons_zero]
      refine I_take (i := 26) (t := 31) (v := undef) (fuel := 4) rfl rfl (by kernel_rfl) (by kernel_rfl) (by kernel_rfl) (fun _ _ _ h => h) (.inr ⟨rfl, rfl⟩) hS ?_
      simp only [List.setIfInBounds_toArray, List.set_cons_succ, List.set_cons_zero]
      refine I_take (i := 27) (t := 32) (v := undef) (fuel := 3) rfl rfl (by kernel_rfl) (by kernel_rfl) (by kernel_rfl) (fun _ _ _ h => h) (.inr ⟨rfl, rfl⟩) hS ?_
      simp only [List.setIfInBounds_toArray, List.set_cons_succ, List.set_cons_zero]
      refine I_take (i := 28) (t := 33) (v := undef) (fuel := 2) rfl rfl (by kernel_rfl) (by kernel_rfl) (by kernel_rfl) (fun _ _ _ h => h) (.inr ⟨rfl, rfl⟩) hS ?_
      simp only [List.setIfInBounds_toArray, List.set_cons_succ, List.set_cons_zero]
      refine I_take (i := 29) (t := 34) (v := (.bool true)) (fuel := 1) rfl rfl (by kernel_rfl) (by kernel_rfl) (by kernel_rfl) (fun _ _ _ h => h) (.inl ⟨rfl, fun W hW => by simp [execOp, Act.eval, go_sem]⟩) hS ?_
      simp only [List.setIfInBounds_toArray, List.set_cons_succ, List.set_cons_zero]
      refine I_take (i := 30) (t := 4) (v := (.bool true)) (fuel := 0) rfl rfl (by kernel_rfl) (by kernel_rfl) (by kernel_rfl) (fun _ _ _ h => h) (.inl ⟨rfl, fun W hW => by simp [execOp, Act.eval, go_sem]⟩) hS ?_
      simp only [List.setIfInBounds_toArray, List.set_cons_succ, List.set_cons_zero]
      refine I_done (by kernel_rfl) ?_ 0
      gi_wp2
      go_ret
      exact .inl ⟨rfl, by rw [List.append_nil]; exact HJ.out, HK.out⟩
    · obtain ⟨pa, rfl⟩ := ha.ptr
      obtain ⟨pc, rfl⟩ := hc.ptr
      obtain ⟨c0, c1, c2, c3, c4⟩ := nd_cells hb
      have hlen : (l1 ++ x :: r1).length = l1.length + 1 + r1.length := by simp only [List.length_append, List.length_cons]; omega
      have hdr := (Below.refl U.heap.size U).drew
      have HN := Lib.hid (show l1.length + 1 + r1.length ≤ n + 1 by rw [← hlen]; exact hn)
      have HA := Lib.hid (ha.on hdr)
      have HC := Lib.hid (hc.on hdr)
      have HJ0 := Lib.hid (hJ.grow h0 (grown_below hdr))
      have HK0 := Lib.hid (Ks.below (S := T) hdr)
      have HIH := Lib.hid ih
      have HY := Lib.hid hY
      have HJ := Lib.hid hJ
      have HM := Lib.hid hM
      have HTB := Lib.hid (show ∀ V, Ks T U.drew V → V.cell? ⟨b, 0, none⟩ = some (.string x.k) ∧ V.cell? ⟨b, 1, none⟩ = some (.int .u8 x.v) ∧ V.cell? ⟨b, 3, none⟩ = some (.pointer pa) ∧ V.cell? ⟨b, 4, none⟩ = some (.pointer pc) from fun V hV => by
        have hb2 := (hV.2 b hS (lt_blk hb)).trans hb
        obtain ⟨d0, d1, d2, d3, d4⟩ := nd_cells hb2
        exact ⟨d0, d1, d3, d4⟩)
      have hS1 := HTB.out U.drew Ks.refl
      clear hn h hM h0 ih hY hS hb ha hc hlen hdr c0 c1 c2 c3 c4 hJ
      refine (callsIn_wide (n := 9)).1 (callsIn_of_wp Try.func68 rfl trivial ?_ rfl)
      simp only [Try.ntmps68, List.size_toArray, List.length_cons, List.length_nil, Nat.reduceAdd, Nat.reduceSub, Array.replicate_succ, Array.replicate_zero, List.push_toArray, List.append_toArray, List.nil_append, List.cons_append]
      gi_wp2
      have hS := hS1
      clear hS1
      refine I_begin 31 (fun W => W.cell? ⟨b, 0, none⟩ = some (.string x.k) ∧ W.cell? ⟨b, 1, none⟩ = some (.int .u8 x.v) ∧ W.cell? ⟨b, 3, none⟩ = some (.pointer pa) ∧ W.cell? ⟨b, 4, none⟩ = some (.pointer pc)) rfl (by kernel_rfl) ?_
      obtain ⟨W, hW⟩ : ∃ W, U.drew = W := ⟨_, rfl⟩
      rw [hW] at hS HA HC HJ0 HK0 HTB ⊢
      clear hW
      refine I_take (i := 0) (t := 5) (v := (.pointer (some ⟨b, 0, none⟩))) (fuel := 30) rfl rfl (by kernel_rfl) (by kernel_rfl) (by kernel_rfl) (fun _ _ _ h => h) (.inl ⟨rfl, fun W hW => by obtain ⟨s0, s1, s3, s4⟩ := hW; simp [execOp, Act.eval, go_sem, s0, s1, s3, s4]⟩) hS ?_
      simp only [List.setIfInBounds_toArray, List.set_cons_succ, List.set_cons_zero]
      refine I_take (i := 1) (t := 6) (v := (.bool false)) (fuel := 29) rfl rfl (by kernel_rfl) (by kernel_rfl) (by kernel_rfl) (fun _ _ _ h => h) (.inl ⟨rfl, fun W hW => by obtain ⟨s0, s1, s3, s4⟩ := hW; simp [execOp, Act.eval, go_sem, s0, s1, s3, s4]⟩) hS ?_
      simp only [List.setIfInBounds_toArray, List.set_cons_succ, List.set_cons_zero]
      refine I_take (i := 2) (t := 7) (v := (.bool false)) (fuel := 28) rfl rfl (by kernel_rfl) (by kernel_rfl) (by kernel_rfl) (fun _ _ _ h => h) (.inl ⟨rfl, fun W hW => by obtain ⟨s0, s1, s3, s4⟩ := hW; simp [execOp, Act.eval, go_sem, s0, s1, s3, s4]⟩) hS ?_
      simp only [List.setIfInBounds_toArray, List.set_cons_succ, List.set_cons_zero]
      refine I_take (i := 3) (t := 8) (v := (.pointer (some ⟨b, 0, none⟩))) (fuel := 27) rfl rfl (by kernel_rfl) (by kernel_rfl) (by kernel_rfl) (fun _ _ _ h => h) (.inl ⟨rfl, fun W hW => by obtain ⟨s0, s1, s3, s4⟩ := hW; simp [execOp, Act.eval, go_sem, s0, s1, s3, s4]⟩) hS ?_
      simp only [List.setIfInBounds_toArray, List.set_cons_succ, List.set_cons_zero]
      refine I_take (i := 4) (t := 9) (v := (.pointer (some ⟨b, 0, none⟩))) (fuel := 26) rfl rfl (by kernel_rfl) (by kernel_rfl) (by kernel_rfl) (fun _ _ _ h => h) (.inl ⟨rfl, fun W hW => by obtain ⟨s0, s1, s3, s4⟩ := hW; simp [execOp, Act.eval, go_sem, s0, s1, s3, s4]⟩) hS ?_
      simp only [List.setIfInBounds_toArray, List.set_cons_succ, List.set_cons_zero]
      refine I_take (i := 5) (t := 10) (v := (.pointer (some ⟨b, 3, none⟩))) (fuel := 25) rfl rfl (by kernel_rfl) (by kernel_rfl) (by kernel_rfl) (fun _ _ _ h => h) (.inl ⟨rfl, fun W hW => by obtain ⟨s0, s1, s3, s4⟩ := hW; simp [execOp, Act.eval, go_sem, s0, s1, s3, s4]⟩) hS ?_
      simp only [List.setIfInBounds_toArray, List.set_cons_succ, List.set_cons_zero]
      refine I_take (i := 6) (t := 11) (v := (.pointer pa)) (fuel := 24) rfl rfl (by kernel_rfl) (by kernel_rfl) (by kernel_rfl) (fun _ _ _ h => h) (.inl ⟨rfl, fun W hW => by obtain ⟨s0, s1, s3, s4⟩ := hW; simp [execOp, Act.eval, go_sem, s0, s1, s3, s4]⟩) hS ?_
      simp only [List.setIfInBounds_toArray, List.set_cons_succ, List.set_cons_zero]
      refine I_take (i := 7) (t := 12) (v := (.func (.yield L) #[] #[])) (fuel := 23) rfl rfl (by kernel_rfl) (by kernel_rfl) (by kernel_rfl) (fun _ _ _ h => h) (.inl ⟨rfl, fun W hW => by obtain ⟨s0, s1, s3, s4⟩ := hW; simp [execOp, Act.eval, go_sem, s0, s1, s3, s4]⟩) hS ?_
      simp only [List.setIfInBounds_toArray, List.set_cons_succ, List.set_cons_zero]
      refine I_call (i := 8) rfl (by kernel_rfl) (by kernel_rfl) ?_
      refine I_enter (by simp [execOp, Act.eval, go_sem]) (fun c h => by cases h) (HIH.out l1 _ pre (x :: r1 ++ post) _ (by have := HN.out; omega) HA.out (by rw [HM.out]; simp) HJ0.out) ?_ (by rintro _ _ (⟨h, _⟩ | ⟨h, _⟩) <;> cases h) (by rintro _ (⟨h, _⟩ | ⟨h, _⟩) <;> cases h)
      rintro v V3 h3
      rcases h3 with (⟨h3, hj3, hk3⟩ | ⟨h3, hj3, hk3⟩)
      · injection h3 with h3
        subst h3
        have HK3 := Lib.hid (HK0.out.trans hk3)
        have HJ3 := Lib.hid hj3
        have HC3 := Lib.hid (HC.out.ks hk3)
        have HTB3 := Lib.hid (fun V h => HTB.out V (hk3.trans h))
        replace hS := HTB.out V3 hk3
        obtain ⟨fn, tmps, assign, body, hy, hR⟩ := HY.out (pre ++ l1) x V3 hj3 (NextT.at_ (post := r1 ++ post) (by rw [HM.out]; simp))
        unfold encKVU at hy
        clear hj3 hk3
        refine ⟨hS, ?_⟩
        try simp only [List.setIfInBounds_toArray, List.set_cons_succ, List.set_cons_zero]
        refine I_take (i := 9) (t := 14) (v := (.bool true)) (fuel := 21) rfl rfl (by kernel_rfl) (by kernel_rfl) (by kernel_rfl) (fun _ _ _ h => h) (.inl ⟨rfl, fun W hW => by obtain ⟨s0, s1, s3, s4⟩ := hW; simp [execOp, Act.eval, go_sem, s0, s1, s3, s4]⟩) hS ?_
        simp only [List.setIfInBounds_toArray, List.set_cons_succ, List.set_cons_zero]
        refine I_take (i := 10) (t := 15) (v := (.func (.yield L) #[] #[])) (fuel := 20) rfl rfl (by kernel_rfl) (by kernel_rfl) (by kernel_rfl) (fun _ _ _ h => h) (.inl ⟨rfl, fun W hW => by obtain ⟨s0, s1, s3, s4⟩ := hW; simp [execOp, Act.eval, go_sem, s0, s1, s3, s4]⟩) hS ?_
        simp only [List.setIfInBounds_toArray, List.set_cons_succ, List.set_cons_zero]
        refine I_take (i := 11) (t := 16) (v := (.pointer (some ⟨b, 0, none⟩))) (fuel := 19) rfl rfl (by kernel_rfl) (by kernel_rfl) (by kernel_rfl) (fun _ _ _ h => h) (.inl ⟨rfl, fun W hW => by obtain ⟨s0, s1, s3, s4⟩ := hW; simp [execOp, Act.eval, go_sem, s0, s1, s3, s4]⟩) hS ?_
        simp only [List.setIfInBounds_toArray, List.set_cons_succ, List.set_cons_zero]
        refine I_take (i := 12) (t := 17) (v := (.pointer (some ⟨b, 0, none⟩))) (fuel := 18) rfl rfl (by kernel_rfl) (by kernel_rfl) (by kernel_rfl) (fun _ _ _ h => h) (.inl ⟨rfl, fun W hW => by obtain ⟨s0, s1, s3, s4⟩ := hW; simp [execOp, Act.eval, go_sem, s0, s1, s3, s4]⟩) hS ?_
        simp only [List.setIfInBounds_toArray, List.set_cons_succ, List.set_cons_zero]
        refine I_take (i := 13) (t := 18) (v := (.pointer (some ⟨b, 0, none⟩))) (fuel := 17) rfl rfl (by kernel_rfl) (by kernel_rfl) (by kernel_rfl) (fun _ _ _ h => h) (.inl ⟨rfl, fun W hW => by obtain ⟨s0, s1, s3, s4⟩ := hW; simp [execOp, Act.eval, go_sem, s0, s1, s3, s4]⟩) hS ?_
        simp only [List.setIfInBounds_toArray, List.set_cons_succ, List.set_cons_zero]
        refine I_take (i := 14) (t := 19) (v := (.string x.k)) (fuel := 16) rfl rfl (by kernel_rfl) (by kernel_rfl) (by kernel_rfl) (fun _ _ _ h => h) (.inl ⟨rfl, fun W hW => by obtain ⟨s0, s1, s3, s4⟩ := hW; simp [execOp, Act.eval, go_sem, s0, s1, s3, s4]⟩) hS ?_
        simp only [List.setIfInBounds_toArray, List.set_cons_succ, List.set_cons_zero]
        refine I_take (i := 15) (t := 20) (v := (.pointer (some ⟨b, 0, none⟩))) (fuel := 15) rfl rfl (by kernel_rfl) (by kernel_rfl) (by kernel_rfl) (fun _ _ _ h => h) (.inl ⟨rfl, fun W hW => by obtain ⟨s0, s1, s3, s4⟩ := hW; simp [execOp, Act.eval, go_sem, s0, s1, s3, s4]⟩) hS ?_
        simp only [List.setIfInBounds_toArray, List.set_cons_succ, List.set_cons_zero]
        refine I_take (i := 16) (t := 21) (v := (.pointer (some ⟨b, 0, none⟩))) (fuel := 14) rfl rfl (by kernel_rfl) (by kernel_rfl) (by kernel_rfl) (fun _ _ _ h => h) (.inl ⟨rfl, fun W hW => by obtain ⟨s0, s1, s3, s4⟩ := hW; simp [execOp, Act.eval, go_sem, s0, s1, s3, s4]⟩) hS ?_
        simp only [List.setIfInBounds_toArray, List.set_cons_succ, List.set_cons_zero]
        refine I_take (i := 17) (t := 22) (v := (.pointer (some ⟨b, 1, none⟩))) (fuel := 13) rfl rfl (by kernel_rfl) (by kernel_rfl) (by kernel_rfl) (fun _ _ _ h => h) (.inl ⟨rfl, fun W hW => by obtain ⟨s0, s1, s3, s4⟩ := hW; simp [execOp, Act.eval, go_sem, s0, s1, s3, s4]⟩) hS ?_
        simp only [List.setIfInBounds_toArray, List.set_cons_succ, List.set_cons_zero]
        refine I_take (i := 18) (t := 23) (v := (.int .u8 x.v)) (fuel := 12) rfl rfl (by kernel_rfl) (by kernel_rfl) (by kernel_rfl) (fun _ _ _ h => h) (.inl ⟨rfl, fun W hW => by obtain ⟨s0, s1, s3, s4⟩ := hW; simp [execOp, Act.eval, go_sem, s0, s1, s3, s4]⟩) hS ?_
        simp only [List.setIfInBounds_toArray, List.set_cons_succ, List.set_cons_zero]
        refine I_call (i := 19) rfl (by kernel_rfl) (by kernel_rfl) ?_
        refine I_round (by simp [execOp, Act.eval, go_sem, hy]) (fun c h => by cases h) hR ?_ (by rintro _ _ (⟨h, _⟩ | ⟨h, _⟩) <;> cases h) (by rintro _ (⟨h, _⟩ | ⟨h, _⟩) <;> cases h)
        rintro v V4 (⟨h4, hj4, hk4⟩ | ⟨h4, hj4, hk4⟩)
        · injection h4 with h4
          subst h4
          have HK4 := Lib.hid (HK3.out.trans hk4)
          have HJ4 := Lib.hid hj4
          have HC4 := Lib.hid (HC3.out.ks hk4)
          have HTB4 := Lib.hid (fun V h => HTB3.out V (hk4.trans h))
          replace hS := HTB3.out V4 hk4
          clear hj4 hk4 hy hR
          refine ⟨hS, ?_⟩
          try simp only [List.setIfInBounds_toArray, List.set_cons_succ, List.set_cons_zero]
          refine I_take (i := 20) (t := 25) (v := (.bool true)) (fuel := 10) rfl rfl (by kernel_rfl) (by kernel_rfl) (by kernel_rfl) (fun _ _ _ h => h) (.inl ⟨rfl, fun W hW => by obtain ⟨s0, s1, s3, s4⟩ := hW; simp [execOp, Act.eval, go_sem, s0, s1, s3, s4]⟩) hS ?_
          simp only [List.setIfInBounds_toArray, List.set_cons_succ, List.set_cons_zero]
          refine I_take (i := 21) (t := 26) (v := (.bool true)) (fuel := 9) rfl rfl (by kernel_rfl) (by kernel_rfl) (by kernel_rfl) (fun _ _ _ h => h) (.inl ⟨rfl, fun W hW => by obtain ⟨s0, s1, s3, s4⟩ := hW; simp [execOp, Act.eval, go_sem, s0, s1, s3, s4]⟩) hS ?_
          simp only [List.setIfInBounds_toArray, List.set_cons_succ, List.set_cons_zero]
          refine I_take (i := 22) (t := 27) (v := (.pointer (some ⟨b, 0, none⟩))) (fuel := 8) rfl rfl (by kernel_rfl) (by kernel_rfl) (by kernel_rfl) (fun _ _ _ h => h) (.inl ⟨rfl, fun W hW => by obtain ⟨s0, s1, s3, s4⟩ := hW; simp [execOp, Act.eval, go_sem, s0, s1, s3, s4]⟩) hS ?_
          simp only [List.setIfInBounds_toArray, List.set_cons_succ, List.set_cons_zero]
          refine I_take (i := 23) (t := 28) (v := (.pointer (some ⟨b, 0, none⟩))) (fuel := 7) rfl rfl (by kernel_rfl) (by kernel_rfl) (by kernel_rfl) (fun _ _ _ h => h) (.inl ⟨rfl, fun W hW => by obtain ⟨s0, s1, s3, s4⟩ := hW; simp [execOp, Act.eval, go_sem, s0, s1, s3, s4]⟩) hS ?_
          simp only [List.setIfInBounds_toArray, List.set_cons_succ, List.set_cons_zero]
          refine I_take (i := 24) (t := 29) (v := (.pointer (some ⟨b, 4, none⟩))) (fuel := 6) rfl rfl (by kernel_rfl) (by kernel_rfl) (by kernel_rfl) (fun _ _ _ h => h) (.inl ⟨rfl, fun W hW => by obtain ⟨s0, s1, s3, s4⟩ := hW; simp [execOp, Act.eval, go_sem, s0, s1, s3, s4]⟩) hS ?_
          simp only [List.setIfInBounds_toArray, List.set_cons_succ, List.set_cons_zero]
          refine I_take (i := 25) (t := 30) (v := (.pointer pc)) (fuel := 5) rfl rfl (by kernel_rfl) (by kernel_rfl) (by kernel_rfl) (fun _ _ _ h => h) (.inl ⟨rfl, fun W hW => by obtain ⟨s0, s1, s3, s4⟩ := hW; simp [execOp, Act.eval, go_sem, s0, s1, s3, s4]⟩) hS ?_
          simp only [List.setIfInBounds_toArray, List.set_cons_succ, List.set_cons_zero]
          refine I_take (i := 26) (t := 31) (v := (.func (.yield L) #[] #[])) (fuel := 4) rfl rfl (by kernel_rfl) (by kernel_rfl) (by kernel_rfl) (fun _ _ _ h => h) (.inl ⟨rfl, fun W hW => by obtain ⟨s0, s1, s3, s4⟩ := hW; simp [execOp, Act.eval, go_sem, s0, s1, s3, s4]⟩) hS ?_
          simp only [List.setIfInBounds_toArray, List.set_cons_succ, List.set_cons_zero]
          refine I_call (i := 27) rfl (by kernel_rfl) (by kernel_rfl) ?_
          refine I_enter (by simp [execOp, Act.eval, go_sem]) (fun c h => by cases h) (HIH.out r1 _ (pre ++ l1 ++ [x]) post _ (by have := HN.out; omega) HC4.out (by rw [HM.out]; simp) HJ4.out) ?_ (by rintro _ _ (⟨h, _⟩ | ⟨h, _⟩) <;> cases h) (by rintro _ (⟨h, _⟩ | ⟨h, _⟩) <;> cases h)
          rintro v V5 h5
          rcases h5 with (⟨h5, hj5, hk5⟩ | ⟨h5, hj5, hk5⟩)
          · injection h5 with h5
            subst h5
            have HK5 := Lib.hid (HK4.out.trans hk5)
            have HJ5 := Lib.hid hj5
            replace hS := HTB4.out V5 hk5
            clear hj5 hk5
            refine ⟨hS, ?_⟩
            try simp only [List.setIfInBounds_toArray, List.set_cons_succ, List.set_cons_zero]
            refine I_take (i := 28) (t := 33) (v := (.bool true)) (fuel := 2) rfl rfl (by kernel_rfl) (by kernel_rfl) (by kernel_rfl) (fun _ _ _ h => h) (.inl ⟨rfl, fun W hW => by obtain ⟨s0, s1, s3, s4⟩ := hW; simp [execOp, Act.eval, go_sem, s0, s1, s3, s4]⟩) hS ?_
            simp only [List.setIfInBounds_toArray, List.set_cons_succ, List.set_cons_zero]
            refine I_take (i := 29) (t := 34) (v := (.bool true)) (fuel := 1) rfl rfl (by kernel_rfl) (by kernel_rfl) (by kernel_rfl) (fun _ _ _ h => h) (.inl ⟨rfl, fun W hW => by obtain ⟨s0, s1, s3, s4⟩ := hW; simp [execOp, Act.eval, go_sem, s0, s1, s3, s4]⟩) hS ?_
            simp only [List.setIfInBounds_toArray, List.set_cons_succ, List.set_cons_zero]
            refine I_take (i := 30) (t := 4) (v := (.bool true)) (fuel := 0) rfl rfl (by kernel_rfl) (by kernel_rfl) (by kernel_rfl) (fun _ _ _ h => h) (.inl ⟨rfl, fun W hW => by obtain ⟨s0, s1, s3, s4⟩ := hW; simp [execOp, Act.eval, go_sem, s0, s1, s3, s4]⟩) hS ?_
            simp only [List.setIfInBounds_toArray, List.set_cons_succ, List.set_cons_zero]
            refine I_done (by kernel_rfl) ?_ 0
            gi_wp2
            go_ret
            exact .inl ⟨rfl, by have h := HJ5.out; simpa using h, HK5.out⟩
          · injection h5 with h5
            subst h5
            have HK5 := Lib.hid (HK4.out.trans hk5)
            have HJ5 := Lib.hid hj5
            replace hS := HTB4.out V5 hk5
            clear hj5 hk5
            refine ⟨hS, ?_⟩
            try simp only [List.setIfInBounds_toArray, List.set_cons_succ, List.set_cons_zero]
            refine I_take (i := 28) (t := 33) (v := (.bool false)) (fuel := 2) rfl rfl (by kernel_rfl) (by kernel_rfl) (by kernel_rfl) (fun _ _ _ h => h) (.inl ⟨rfl, fun W hW => by obtain ⟨s0, s1, s3, s4⟩ := hW; simp [execOp, Act.eval, go_sem, s0, s1, s3, s4]⟩) hS ?_
            simp only [List.setIfInBounds_toArray, List.set_cons_succ, List.set_cons_zero]
            refine I_take (i := 29) (t := 34) (v := (.bool false)) (fuel := 1) rfl rfl (by kernel_rfl) (by kernel_rfl) (by kernel_rfl) (fun _ _ _ h => h) (.inl ⟨rfl, fun W hW => by obtain ⟨s0, s1, s3, s4⟩ := hW; simp [execOp, Act.eval, go_sem, s0, s1, s3, s4]⟩) hS ?_
            simp only [List.setIfInBounds_toArray, List.set_cons_succ, List.set_cons_zero]
            refine I_take (i := 30) (t := 4) (v := (.bool false)) (fuel := 0) rfl rfl (by kernel_rfl) (by kernel_rfl) (by kernel_rfl) (fun _ _ _ h => h) (.inl ⟨rfl, fun W hW => by obtain ⟨s0, s1, s3, s4⟩ := hW; simp [execOp, Act.eval, go_sem, s0, s1, s3, s4]⟩) hS ?_
            simp only [List.setIfInBounds_toArray, List.set_cons_succ, List.set_cons_zero]
            refine I_done (by kernel_rfl) ?_ 0
            gi_wp2
            go_ret
            exact .inr ⟨rfl, HJ5.out, HK5.out⟩
        · injection h4 with h4
          subst h4
          have HK4 := Lib.hid (HK3.out.trans hk4)
          have HJ4 := Lib.hid hj4
          replace hS := HTB3.out V4 hk4
          clear hj4 hk4 hy hR
          refine ⟨hS, ?_⟩
          try simp only [List.setIfInBounds_toArray, List.set_cons_succ, List.set_cons_zero]
          refine I_take (i := 20) (t := 25) (v := (.bool false)) (fuel := 10) rfl rfl (by kernel_rfl) (by kernel_rfl) (by kernel_rfl) (fun _ _ _ h => h) (.inl ⟨rfl, fun W hW => by obtain ⟨s0, s1, s3, s4⟩ := hW; simp [execOp, Act.eval, go_sem, s0, s1, s3, s4]⟩) hS ?_
          simp only [List.setIfInBounds_toArray, List.set_cons_succ, List.set_cons_zero]
          refine I_take (i := 21) (t := 26) (v := (.bool false)) (fuel := 9) rfl rfl (by kernel_rfl) (by kernel_rfl) (by kernel_rfl) (fun _ _ _ h => h) (.inl ⟨rfl, fun W hW => by obtain ⟨s0, s1, s3, s4⟩ := hW; simp [execOp, Act.eval, go_sem, s0, s1, s3, s4]⟩) hS ?_
          simp only [List.setIfInBounds_toArray, List.set_cons_succ, List.set_cons_zero]
          refine I_take (i := 22) (t := 27) (v := undef) (fuel := 8) rfl rfl (by kernel_rfl) (by kernel_rfl) (by kernel_rfl) (fun _ _ _ h => h) (.inr ⟨rfl, rfl⟩) hS ?_
          simp only [List.setIfInBounds_toArray, List.set_cons_succ, List.set_cons_zero]
          refine I_take (i := 23) (t := 28) (v := undef) (fuel := 7) rfl rfl (by kernel_rfl) (by kernel_rfl) (by kernel_rfl) (fun _ _ _ h => h) (.inr ⟨rfl, rfl⟩) hS ?_
          simp only [List.setIfInBounds_toArray, List.set_cons_succ, List.set_cons_zero]
          refine I_take (i := 24) (t := 29) (v := undef) (fuel := 6) rfl rfl (by kernel_rfl) (by kernel_rfl) (by kernel_rfl) (fun _ _ _ h => h) (.inr ⟨rfl, rfl⟩) hS ?_
          simp only [List.setIfInBounds_toArray, List.set_cons_succ, List.set_cons_zero]
          refine I_take (i := 25) (t := 30) (v := undef) (fuel := 5) rfl rfl (by kernel_rfl) (by kernel_rfl) (by kernel_rfl) (fun _ _ _ h => h) (.inr ⟨rfl, rfl⟩) hS ?_
          simp only [List.setIfInBounds_toArray, List.set_cons_succ, List.set_cons_zero]
          refine I_take (i := 26) (t := 31) (v := undef) (fuel := 4) rfl rfl (by kernel_rfl) (by kernel_rfl) (by kernel_rfl) (fun _ _ _ h => h) (.inr ⟨rfl, rfl⟩) hS ?_
          simp only [List.setIfInBounds_toArray, List.set_cons_succ, List.set_cons_zero]
          refine I_take (i := 27) (t := 32) (v := undef) (fuel := 3) rfl rfl (by kernel_rfl) (by kernel_rfl) (by kernel_rfl) (fun _ _ _ h => h) (.inr ⟨rfl, rfl⟩) hS ?_
          simp only [List.setIfInBounds_toArray, List.set_cons_succ, List.set_cons_zero]
          refine I_take (i := 28) (t := 33) (v := (.bool false)) (fuel := 2) rfl rfl (by kernel_rfl) (by kernel_rfl) (by kernel_rfl) (fun _ _ _ h => h) (.inl ⟨rfl, fun W hW => by obtain ⟨s0, s1, s3, s4⟩ := hW; simp [execOp, Act.eval, go_sem, s0, s1, s3, s4]⟩) hS ?_
          simp only [List.setIfInBounds_toArray, List.set_cons_succ, List.set_cons_zero]
          refine I_take (i := 29) (t := 34) (v := (.bool false)) (fuel := 1) rfl rfl (by kernel_rfl) (by kernel_rfl) (by kernel_rfl) (fun _ _ _ h => h) (.inl ⟨rfl, fun W hW => by obtain ⟨s0, s1, s3, s4⟩ := hW; simp [execOp, Act.eval, go_sem, s0, s1, s3, s4]⟩) hS ?_
          simp only [List.setIfInBounds_toArray, List.set_cons_succ, List.set_cons_zero]
          refine I_take (i := 30) (t := 4) (v := (.bool false)) (fuel := 0) rfl rfl (by kernel_rfl) (by kernel_rfl) (by kernel_rfl) (fun _ _ _ h => h) (.inl ⟨rfl, fun W hW => by obtain ⟨s0, s1, s3, s4⟩ := hW; simp [execOp, Act.eval, go_sem, s0, s1, s3, s4]⟩) hS ?_
          simp only [List.setIfInBounds_toArray, List.set_cons_succ, List.set_cons_zero]
          refine I_done (by kernel_rfl) ?_ 0
          gi_wp2
          go_ret
          exact .inr ⟨rfl, ⟨_, HJ4.out⟩, HK4.out⟩
      · injection h3 with h3
        subst h3
        have HK3 := Lib.hid (HK0.out.trans hk3)
        have HJ3 := Lib.hid hj3
        replace hS := HTB.out V3 hk3
        clear hj3 hk3
        refine ⟨hS, ?_⟩
        try simp only [List.setIfInBounds_toArray, List.set_cons_succ, List.set_cons_zero]
        refine I_take (i := 9) (t := 14) (v := (.bool false)) (fuel := 21) rfl rfl (by kernel_rfl) (by kernel_rfl) (by kernel_rfl) (fun _ _ _ h => h) (.inl ⟨rfl, fun W hW => by obtain ⟨s0, s1, s3, s4⟩ := hW; simp [execOp, Act.eval, go_sem, s0, s1, s3, s4]⟩) hS ?_
        simp only [List.setIfInBounds_toArray, List.set_cons_succ, List.set_cons_zero]
        refine I_take (i := 10) (t := 15) (v := undef) (fuel := 20) rfl rfl (by kernel_rfl) (by kernel_rfl) (by kernel_rfl) (fun _ _ _ h => h) (.inr ⟨rfl, rfl⟩) hS ?_
        simp only [List.setIfInBounds_toArray, List.set_cons_succ, List.set_cons_zero]
        refine I_take (i := 11) (t := 16) (v := undef) (fuel := 19) rfl rfl (by kernel_rfl) (by kernel_rfl) (by kernel_rfl) (fun _ _ _ h => h) (.inr ⟨rfl, rfl⟩) hS ?_
        simp only [List.setIfInBounds_toArray, List.set_cons_succ, List.set_cons_zero]
        refine I_take (i := 12) (t := 17) (v := undef) (fuel := 18) rfl rfl (by kernel_rfl) (by kernel_rfl) (by kernel_rfl) (fun _ _ _ h => h) (.inr ⟨rfl, rfl⟩) hS ?_
        simp only [List.setIfInBounds_toArray, List.set_cons_succ, List.set_cons_zero]
        refine I_take (i := 13) (t := 18) (v := undef) (fuel := 17) rfl rfl (by kernel_rfl) (by kernel_rfl) (by kernel_rfl) (fun _ _ _ h => h) (.inr ⟨rfl, rfl⟩) hS ?_
        simp only [List.setIfInBounds_toArray, List.set_cons_succ, List.set_cons_zero]
        refine I_take (i := 14) (t := 19) (v := undef) (fuel := 16) rfl rfl (by kernel_rfl) (by kernel_rfl) (by kernel_rfl) (fun _ _ _ h => h) (.inr ⟨rfl, rfl⟩) hS ?_
        simp only [List.setIfInBounds_toArray, List.set_cons_succ, List.set_cons_zero]
        refine I_take (i := 15) (t := 20) (v := undef) (fuel := 15) rfl rfl (by kernel_rfl) (by kernel_rfl) (by kernel_rfl) (fun _ _ _ h => h) (.inr ⟨rfl, rfl⟩) hS ?_
        simp only [List.setIfInBounds_toArray, List.set_cons_succ, List.set_cons_zero]
        refine I_take (i := 16) (t := 21) (v := undef) (fuel := 14) rfl rfl (by kernel_rfl) (by kernel_rfl) (by kernel_rfl) (fun _ _ _ h => h) (.inr ⟨rfl, rfl⟩) hS ?_
        simp only [List.setIfInBounds_toArray, List.set_cons_succ, List.set_cons_zero]
        refine I_take (i := 17) (t := 22) (v := undef) (fuel := 13) rfl rfl (by kernel_rfl) (by kernel_rfl) (by kernel_rfl) (fun _ _ _ h => h) (.inr ⟨rfl, rfl⟩) hS ?_
        simp only [List.setIfInBounds_toArray, List.set_cons_succ, List.set_cons_zero]
        refine I_take (i := 18) (t := 23) (v := undef) (fuel := 12) rfl rfl (by kernel_rfl) (by kernel_rfl) (by kernel_rfl) (fun _ _ _ h => h) (.inr ⟨rfl, rfl⟩) hS ?_
        simp only [List.setIfInBounds_toArray, List.set_cons_succ, List.set_cons_zero]
        refine I_take (i := 19) (t := 24) (v := undef) (fuel := 11) rfl rfl (by kernel_rfl) (by kernel_rfl) (by kernel_rfl) (fun _ _ _ h => h) (.inr ⟨rfl, rfl⟩) hS ?_
        simp only [List.setIfInBounds_toArray, List.set_cons_succ, List.set_cons_zero]
        refine I_take (i := 20) (t := 25) (v := (.bool false)) (fuel := 10) rfl rfl (by kernel_rfl) (by kernel_rfl) (by kernel_rfl) (fun _ _ _ h => h) (.inl ⟨rfl, fun W hW => by obtain ⟨s0, s1, s3, s4⟩ := hW; simp [execOp, Act.eval, go_sem, s0, s1, s3, s4]⟩) hS ?_
        simp only [List.setIfInBounds_toArray, List.set_cons_succ, List.set_cons_zero]
        refine I_take (i := 21) (t := 26) (v := (.bool false)) (fuel := 9) rfl rfl (by kernel_rfl) (by kernel_rfl) (by kernel_rfl) (fun _ _ _ h => h) (.inl ⟨rfl, fun W hW => by obtain ⟨s0, s1, s3, s4⟩ := hW; simp [execOp, Act.eval, go_sem, s0, s1, s3, s4]⟩) hS ?_
        simp only [List.setIfInBounds_toArray, List.set_cons_succ, List.set_cons_zero]
        refine I_take (i := 22) (t := 27) (v := undef) (fuel := 8) rfl rfl (by kernel_rfl) (by kernel_rfl) (by kernel_rfl) (fun _ _ _ h => h) (.inr ⟨rfl, rfl⟩) hS ?_
        simp only [List.setIfInBounds_toArray, List.set_cons_succ, List.set_cons_zero]
        refine I_take (i := 23) (t := 28) (v := undef) (fuel := 7) rfl rfl (by kernel_rfl) (by kernel_rfl) (by kernel_rfl) (fun _ _ _ h => h) (.inr ⟨rfl, rfl⟩) hS ?_
        simp only [List.setIfInBounds_toArray, List.set_cons_succ, List.set_cons_zero]
        refine I_take (i := 24) (t := 29) (v := undef) (fuel := 6) rfl rfl (by kernel_rfl) (by kernel_rfl) (by kernel_rfl) (fun _ _ _ h => h) (.inr ⟨rfl, rfl⟩) hS ?_
        simp only [List.setIfInBounds_toArray, List.set_cons_succ, List.set_cons_zero]
        refine I_take (i := 25) (t := 30) (v := undef) (fuel := 5) rfl rfl (by kernel_rfl) (by kernel_rfl) (by kernel_rfl) (fun _ _ _ h => h) (.inr ⟨rfl, rfl⟩) hS ?_
        simp only [List.setIfInBounds_toArray, List.set_cons_succ, List.set_cons_zero]
        refine I_take (i := 26) (t := 31) (v := undef) (fuel := 4) rfl rfl (by kernel_rfl) (by kernel_rfl) (by kernel_rfl) (fun _ _ _ h => h) (.inr ⟨rfl, rfl⟩) hS ?_
        simp only [List.setIfInBounds_toArray, List.set_cons_succ, List.set_cons_zero]
        refine I_take (i := 27) (t := 32) (v := undef) (fuel := 3) rfl rfl (by kernel_rfl) (by kernel_rfl) (by kernel_rfl) (fun _ _ _ h => h) (.inr ⟨rfl, rfl⟩) hS ?_
        simp only [List.setIfInBounds_toArray, List.set_cons_succ, List.set_cons_zero]
        refine I_take (i := 28) (t := 33) (v := (.bool false)) (fuel := 2) rfl rfl (by kernel_rfl) (by kernel_rfl) (by kernel_rfl) (fun _ _ _ h => h) (.inl ⟨rfl, fun W hW => by obtain ⟨s0, s1, s3, s4⟩ := hW; simp [execOp, Act.eval, go_sem, s0, s1, s3, s4]⟩) hS ?_
        simp only [List.setIfInBounds_toArray, List.set_cons_succ, List.set_cons_zero]
        refine I_take (i := 29) (t := 34) (v := (.bool false)) (fuel := 1) rfl rfl (by kernel_rfl) (by kernel_rfl) (by kernel_rfl) (fun _ _ _ h => h) (.inl ⟨rfl, fun W hW => by obtain ⟨s0, s1, s3, s4⟩ := hW; simp [execOp, Act.eval, go_sem, s0, s1, s3, s4]⟩) hS ?_
        simp only [List.setIfInBounds_toArray, List.set_cons_succ, List.set_cons_zero]
        refine I_take (i := 30) (t := 4) (v := (.bool false)) (fuel := 0) rfl rfl (by kernel_rfl) (by kernel_rfl) (by kernel_rfl) (fun _ _ _ h => h) (.inl ⟨rfl, fun W hW => by obtain ⟨s0, s1, s3, s4⟩ := hW; simp [execOp, Act.eval, go_sem, s0, s1, s3, s4]⟩) hS ?_
        simp only [List.setIfInBounds_toArray, List.set_cons_succ, List.set_cons_zero]
        refine I_done (by kernel_rfl) ?_ 0
        gi_wp2
        go_ret
        exact .inr ⟨rfl, HJ3.out, HK3.out⟩
end Go.Proofs.Ytmeoednndfgffaa
