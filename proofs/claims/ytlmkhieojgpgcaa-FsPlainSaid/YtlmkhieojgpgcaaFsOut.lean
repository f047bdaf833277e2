/- The statement FsPlain: its own functions find and out. -/
import Derived.Test.YtlmkhieojgpgcaaFsActs
namespace Go.Proofs.Ytlmkhieojgpgcaa
open Go.ChangeShapes Go.WideShapes Go.ChangeAt Go.RowKit Go.ChangeMaps Go.MapKept
set_option linter.unusedVariables false

def idxN (ns : List Nm) (n : Nm) : Option Nat := ns.findIdx? fun m => m == n
def idxI (ns : List Nm) (n : Nm) : Int := match idxN ns n with
  | none => -1
  | some i => (i : Int)
theorem idxI_at {ns : List Nm} {n : Nm} {k : Nat} (h : k < ns.length) (he : ns[k] = n) (hb : ∀ j (h : j < ns.length), j < k → ns[j] ≠ n) : idxI ns n = (k : Int) := by
  have : idxN ns n = some k := by
    unfold idxN
    rw [List.findIdx?_eq_some_iff_getElem]
    exact ⟨h, by simp [he], fun j hj => by simp [hb j (by omega) hj]⟩
  unfold idxI
  rw [this]
theorem idxI_none {ns : List Nm} {n : Nm} (hb : ∀ j (h : j < ns.length), ns[j] ≠ n) : idxI ns n = -1 := by
  have : idxN ns n = none := by
    unfold idxN
    rw [List.findIdx?_eq_none_iff]
    intro x hx
    obtain ⟨j, hj, rfl⟩ := List.getElem_of_mem hx
    simp [hb j hj]
  unfold idxI
  rw [this]
theorem own_strs {w : World} {B n c : Nat} {A : Option Addr} {ns : List Nm} (h : w.ownsRow B 9 1 (.slice A n c) n (ns.map encStr)) (hn : n = ns.length) : n ≤ c ∧ ∀ j (h : j < ns.length), ∃ g, A = some ⟨g, 0, none⟩ ∧ w.cell? ⟨g, j, none⟩ = some (.string (txt ns[j])) := by
  rcases h.2 with ⟨hv, h0⟩ | ⟨g, cap, cur, hv, _, hh, h1, _, h2, h3⟩
  · injection hv with h1 h2 h3
    exact ⟨by omega, fun j hj => by omega⟩
  · have hv' := hv
    injection hv with h4 h5 h6
    subst h4; subst h6
    refine ⟨h1, fun j hj => ⟨g, rfl, ?_⟩⟩
    have := h.cells (g := g) rfl j (encStr ns[j]) (by simp [hj])
    rwa [add_at, Nat.zero_add] at this
theorem txt_inj {a b : Nm} : txt a = txt b ↔ a = b := ⟨fun h => by have := congrArg (fun s : ByteArray => s.data.toList) h; exact this, fun h => by rw [h]⟩
set_option maxHeartbeats 1000000 in
theorem find_any {B : Nat} (ns : List Nm) (cn len : Nat) (nv : Value) (w : World) (hlen : len = ns.length) (hc : Cells w cn #[nv] 35) (hr : w.ownsRow B 9 1 nv len (ns.map encStr)) (hl : len ≤ 1000000) (n : Nm) :
    Calls Try.prog 25 #[.string (txt n), adr cn] w fun e w' => e = .returned (.int .i64 (idxI ns n)) ∧ w = w' := by
  obtain ⟨A, c, rfl⟩ := own_slice hr
  obtain ⟨hnc, hcell⟩ := own_strs hr hlen
  have c0 : w.cell? ⟨cn, 0, none⟩ = some (.slice A len c) := hc.cell 0
  have HC := Lib.hid hcell
  have HL := Lib.hid hlen
  clear hcell hlen hc hr hnc
  unfold adr
  go_enter Try.func25, Try.ntmps25
  go_wp2
  go_loop [4] (fun iv => ∃ k : Nat, k ≤ len ∧ iv = .int .i64 (k : Int) ∧ Hid (∀ j (h : j < ns.length), j < k → ns[j] ≠ n)) (fun iv => len - (intOf iv).toNat)
  case atStart => exact ⟨0, Nat.zero_le _, rfl, Lib.hid (fun j _ h => by omega)⟩
  case round =>
    obtain ⟨k, hk, rfl, HK⟩ := hrel
    by_cases hlt : k < len
    · have hkl : k < ns.length := by rw [← HL.out]; exact hlt
      obtain ⟨g, rfl, hg⟩ := HC.out k hkl
      by_cases e : ns[k] = n
      · have HF := Lib.hid (idxI_at hkl e HK.out)
        rw [e] at hg
        have hbe : ((txt n).toList == (txt n).toList) = true := str_eq rfl
        clear e
        go_wp2
        go_ret
        exact ⟨by rw [HF.out]; rfl, rfl⟩
      · have HK2 := Lib.hid (show ∀ j (h : j < ns.length), j < k + 1 → ns[j] ≠ n from fun j hj hjk => by
          by_cases e2 : j = k
          · subst e2; exact e
          · exact HK.out j hj (by omega))
        obtain ⟨m, hm⟩ : ∃ m, ns[k] = m := ⟨_, rfl⟩
        rw [hm] at hg e
        have hbe : ((txt m).toList == (txt n).toList) = false := str_ne (fun h => e (txt_inj.1 h))
        clear hm
        go_wp2
        go_round
        case rel => exact ⟨k + 1, by omega, by go_num, HK2⟩
        case measure => simp [intOf]; omega
    · have HF := Lib.hid (idxI_none (ns := ns) (n := n) fun j hj => HK.out j hj (by have := HL.out; omega))
      go_wp2
      go_ret
      exact ⟨by rw [HF.out]; rfl, rfl⟩
/-- 'append(s, x...)' at a step of a region that draws its order, of texts. -/
theorem step_append_strs (w : World) {ops : Array Oper} {o : Oper} {a : Act} {K : Act → World → Prop} {Q : Exit → Act → World → Prop} {E : Prop} (hgd : o.guard = none) (s x : Operand)
    (ho : o.op = .call { callee := .builtin .append, args := #[s, x], argTypes := #[35, 35] })
    (B n : Nat) (v : Value) (ns ms : List Nm) (hs : a.eval s = v) (hn : n = ns.length) (hown : w.ownsRow B 9 1 v n (ns.map encStr))
    (ad : Addr) (m c : Nat) (hx : a.eval x = .slice (some ad) m c) (hl : m = ms.length) (hnews : ∀ j (h : j < ms.length), w.cell? (ad.add j) = some (encStr ms[j]))
    (hlen : n + m ≤ 1000000) (hB : B ≤ w.heap.size)
    (h : ∀ A' c' w', w'.ownsRow B 9 1 (.slice A' (n + m) c') (n + m) ((ns ++ ms).map encStr) → w.grownBy w' v.ownBlock → ((Value.slice A' (n + m) c').ownBlock = v.ownBlock ∨ (Value.slice A' (n + m) c').ownBlock = some w.heap.size) → K (a.put o.dst (.slice A' (n + m) c')) w') :
    if Region.wanted o (yielded ops a.tmps) = true then Oper.wp Try.prog o a w K Q else E := by
  have hw : Region.wanted o (yielded ops a.tmps) = true := by simp [Region.wanted, hgd]
  rw [if_pos hw]
  obtain ⟨i0, hi, hz0, hz1, hz2⟩ := info_parts infoStr
  obtain ⟨v', w', hr, h2, h3, _, h5⟩ := run_append_own_at (P := Try.prog) w B 35 o.type 9 i0 _ 1 16 Try.underlying35 hi hz0 hz1 hz2 rfl (by decide) v n (ns.map encStr) hown ad m c (ms.map encStr) (by simp [hl]) (fun j u hj => by
    rw [List.getElem?_map, Option.map_eq_some_iff] at hj
    obtain ⟨y, hy, rfl⟩ := hj
    obtain ⟨hlt, rfl⟩ := List.getElem?_eq_some_iff.1 hy
    exact hnews j hlt) (one_str ms) (by unfold maxLen; omega) (by omega) hB
  obtain ⟨A', c', rfl⟩ := own_slice h2
  unfold Oper.wp execOp
  simp only [ho, resolve, invoke, builtin, Sem.run_bind, Sem.run_pure, Result.andThen_ok, List.map_toArray, List.map_cons, List.map_nil, hs, hx, hr]
  exact h A' c' w' (by rw [List.map_append]; exact h2) h3 h5
/-- The same, onto a slice that has just been made. -/
theorem step_append_strs0 (w : World) {ops : Array Oper} {o : Oper} {a : Act} {K : Act → World → Prop} {Q : Exit → Act → World → Prop} {E : Prop} (hgd : o.guard = none) (s x : Operand)
    (ho : o.op = .call { callee := .builtin .append, args := #[s, x], argTypes := #[35, 35] })
    (hs : a.eval s = .slice (some ⟨w.heap.size, 0, none⟩) 0 0) (ms : List Nm)
    (ad : Addr) (m c : Nat) (hx : a.eval x = .slice (some ad) m c) (hl : m = ms.length) (hnews : ∀ j (h : j < ms.length), (w.alloc (.cells #[] 9)).cell? (ad.add j) = some (encStr ms[j]))
    (hlen : m ≤ 1000000)
    (h : ∀ A' c' w', w'.ownsRow w.heap.size 9 1 (.slice A' m c') m (ms.map encStr) → Below w.heap.size w w' → K (a.put o.dst (.slice A' m c')) w') :
    if Region.wanted o (yielded ops a.tmps) = true then Oper.wp Try.prog o a (w.alloc (.cells #[] 9)).drew K Q else E := by
  refine step_append_strs _ hgd s x ho w.heap.size 0 _ [] ms hs rfl (show (w.alloc (.cells #[] 9)).drew.ownsRow w.heap.size 9 1 (.slice (some ⟨w.heap.size, 0, none⟩) 0 0) 0 [] from World.ownsRow_made w #[] 0 (Nat.le_refl _) (by decide) rfl) ad m c hx hl (fun j hj => hnews j hj) (by omega) (by simp [World.drew]) ?_
  intro A' c' w' h1 h2 _
  simp only [Nat.zero_add, List.nil_append] at h1 ⊢
  refine h A' c' w' h1 ?_
  have hb : Below w.heap.size w (w.alloc (.cells #[] 9)).drew := (Below.al (Below.refl _ _) (Nat.le_refl _) _).drew
  exact hb.grown h2 (by simp [World.drew]) (fun k e => by cases e; exact Nat.le_refl _)
end Go.Proofs.Ytlmkhieojgpgcaa
