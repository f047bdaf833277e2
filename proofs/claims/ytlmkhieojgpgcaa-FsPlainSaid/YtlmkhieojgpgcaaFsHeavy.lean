/- Calls that are looked at: how many, how long. -/
import Derived.Test.YtlmkhieojgpgcaaFsActs
namespace Go.Proofs.Ytlmkhieojgpgcaa
open Go.ChangeShapes Go.WideShapes Go.ChangeAt Go.RowKit Go.ChangeMaps Go.MapKept
set_option linter.unusedVariables false

/-- Calls that are looked at. -/
def Light (l : List Ac) : Prop := l.length ≤ 20000 ∧ ∀ a ∈ l, a.b.size ≤ 20000 ∧ a.dir.size ≤ 100 ∧ a.name.size ≤ 100 ∧ a.ps.length ≤ 20000
def HeavyPost (l : List Ac) (w : World) (e : Ending) (w' : World) : Prop := ∃ h : Bool, e = .returned (.bool h) ∧ (h = false → Light l) ∧ Below w.heap.size w w'
structure HvAt (l : List Ac) (len : Nat) (w wr : World) (iv nv : Value) : Prop where
  here : ∃ k N : Nat, k ≤ len ∧ k ≤ N ∧ N ≤ 20000 ∧ iv = .int .i64 (k : Int) ∧ nv = .int .i64 (N : Int) ∧ ∀ j (h : j < l.length), j < k → l[j].b.size ≤ 20000 ∧ l[j].dir.size ≤ 100 ∧ l[j].name.size ≤ 100 ∧ l[j].ps.length ≤ 20000
set_option maxRecDepth 4000 in
set_option maxHeartbeats 4000000 in
theorem heavy_any (l : List Ac) (A : Option Addr) (len c : Nat) (w : World) (hl : len = l.length) (hm : len ≤ maxLen) (hg : ∀ a ∈ l, a.good w) (hr : RowC Ac.cells 7 w w.heap.size A l) :
    Calls Try.prog 24 #[.slice A len c] w (HeavyPost l w) := by
  have HL := Lib.hid hl
  have HG := Lib.hid hg
  have HR := Lib.hid hr
  have hm2 : len ≤ 9223372036854775807 := by unfold maxLen at hm; omega
  clear hl hg hr hm
  go_enter Try.func24, Try.ntmps24
  go_wp2
  go_loopw [3, 4] (fun nv iv wr => Hid (HvAt l len w wr iv nv) ∧ Below w.heap.size w wr) (fun _ iv _ => len - (intOf iv).toNat)
  case atStart => exact ⟨Lib.hid ⟨0, 0, Nat.zero_le _, Nat.le_refl _, by omega, rfl, rfl, fun j h hj => by omega⟩, Below.refl _ _⟩
  case round =>
    obtain ⟨HV, hb⟩ := hrel
    obtain ⟨k, N, hk, hkN, hN, rfl, rfl, hS⟩ := HV.out
    have HS := Lib.hid hS
    have HB := Lib.hid hb
    clear hS HV
    by_cases hlt : k < len
    · have hkl : k < l.length := by rw [← HL.out]; exact hlt
      obtain ⟨b, off, rfl, hbl, h0⟩ := HR.out k hkl
      have hgd := HG.out _ (List.getElem_mem hkl)
      obtain ⟨x, hx⟩ : ∃ x, l[k] = x := ⟨_, rfl⟩
      have HX := Lib.hid hx
      rw [hx] at h0 hgd
      have c1 : wr.cell? ⟨b, off + k * 7 + 1, none⟩ = some (.string x.dir) := (hb.cell (p := ⟨b, _, none⟩) hbl).trans (h0 1 _ rfl)
      have c2 : wr.cell? ⟨b, off + k * 7 + 2, none⟩ = some (.string x.name) := (hb.cell (p := ⟨b, _, none⟩) hbl).trans (h0 2 _ rfl)
      have c3 : wr.cell? ⟨b, off + k * 7 + 3, none⟩ = some (.string x.b) := (hb.cell (p := ⟨b, _, none⟩) hbl).trans (h0 3 _ rfl)
      have c6 : wr.cell? ⟨b, off + k * 7 + 6, none⟩ = some (.slice x.A x.ps.length x.c) := (hb.cell (p := ⟨b, _, none⟩) hbl).trans (h0 6 _ rfl)
      obtain ⟨dir, hdir⟩ : ∃ y, x.dir = y := ⟨_, rfl⟩
      obtain ⟨name, hname⟩ : ∃ y, x.name = y := ⟨_, rfl⟩
      obtain ⟨bb, hbb⟩ : ∃ y, x.b = y := ⟨_, rfl⟩
      obtain ⟨pn, hpn⟩ : ∃ y, x.ps.length = y := ⟨_, rfl⟩
      have s1 := hgd.dir
      have s2 := hgd.name
      have s3 := hgd.b
      have s4 := Nat.le_trans hgd.len hgd.cap
      rw [hdir] at c1 s1
      rw [hname] at c2 s2
      rw [hbb] at c3 s3
      rw [hpn] at c6 s4
      have HXX := Lib.hid (And.intro hdir (And.intro hname (And.intro hbb hpn)))
      unfold maxLen at s1 s2 s3 s4
      obtain ⟨m1, e1, h1⟩ : ∃ m1 : Nat, min (bb.size : Int) 20000 = (m1 : Int) ∧ m1 ≤ 20000 ∧ (m1 < 20000 → bb.size ≤ 20000) := by
        by_cases h : (20000 : Int) < (bb.size : Int)
        · exact ⟨20000, by omega, by omega, by omega⟩
        · exact ⟨bb.size, by omega, by omega, by omega⟩
      obtain ⟨m2, e2, h2⟩ : ∃ m2 : Nat, min (pn : Int) 20000 = (m2 : Int) ∧ m2 ≤ 20000 ∧ (m2 < 20000 → pn ≤ 20000) := by
        by_cases h : (20000 : Int) < (pn : Int)
        · exact ⟨20000, by omega, by omega, by omega⟩
        · exact ⟨pn, by omega, by omega, by omega⟩
      clear h0 hgd hx hdir hname hbb hpn hb
      go_wp2
      go_region
      by_cases hN : (20000 : Int) < (N : Int) + 1 + (m1 : Int) + (m2 : Int)
      · go_wp2
        go_ret
        exact ⟨true, rfl, (fun h => by cases h), HB.out.drew⟩
      · have hNd : decide ((20000 : Int) < (N : Int) + 1 + (m1 : Int) + (m2 : Int)) = false := decide_eq_false hN
        by_cases hD : (100 : Int) < (dir.size : Int)
        · go_wp2
          go_ret
          exact ⟨true, rfl, (fun h => by cases h), HB.out.drew⟩
        · have hDd : decide ((100 : Int) < (dir.size : Int)) = false := decide_eq_false hD
          by_cases hM : (100 : Int) < (name.size : Int)
          · go_wp2
            go_ret
            exact ⟨true, rfl, (fun h => by cases h), HB.out.drew⟩
          · have hMd : decide ((100 : Int) < (name.size : Int)) = false := decide_eq_false hM
            have HNX := Lib.hid (show HvAt l len w wr.drew (.int .i64 ((k : Int) + 1)) (.int .i64 ((N : Int) + 1 + (m1 : Int) + (m2 : Int))) from ⟨k + 1, N + 1 + m1 + m2, by omega, by omega, by omega, by go_num, by simp, fun j hj hjk => by
              by_cases e : j = k
              · subst e
                rw [HX.out, HXX.out.1, HXX.out.2.1, HXX.out.2.2.1, HXX.out.2.2.2]
                exact ⟨h1.2 (by omega), by omega, by omega, h2.2 (by omega)⟩
              · exact HS.out j hj (by omega)⟩)
            clear h1 h2
            go_wp2
            go_roundw
            case rel => exact ⟨HNX, HB.out.drew⟩
            case measure => simp [intOf]; omega
    · have hkl : k = len := by omega
      subst hkl
      have HF := Lib.hid (show Light l from ⟨by rw [← HL.out]; omega, fun a ha => by
        obtain ⟨j, hj, rfl⟩ := List.getElem_of_mem ha
        exact HS.out j hj (by rw [HL.out]; exact hj)⟩)
      go_wp2
      go_ret
      exact ⟨false, rfl, (fun _ => HF.out), HB.out⟩
end Go.Proofs.Ytlmkhieojgpgcaa
