/- The statement FsPlain: what is told in the end. -/
import Derived.Test.YtlmkhieojgpgcaaFsPa
namespace Go.Proofs.Ytlmkhieojgpgcaa
open Go.ChangeShapes Go.WideShapes Go.ChangeAt Go.RowKit Go.ChangeMaps Go.MapKept
set_option linter.unusedVariables false

def nowl (s : Fs) : Pl := (s.dir nd).now.map fun p => (p.1, bytesOf s p.2)
theorem tot_take (l : Pl) (k : Nat) (h : k < l.length) : tot (l.take (k + 1)) = tot (l.take k) + (l[k].2.length : Int) := by
  induction l generalizing k with
  | nil => simp at h
  | cons p r ih =>
    cases k with
    | zero => simp [tot]
    | succ k =>
      have := ih k (by simpa using h)
      simp only [List.take_succ_cons, tot, List.getElem_cons_succ, this]
      omega
section
variable {s : Fs} {ps : Pl}
theorem RelP.liveE (h : RelP s ps) : liveE s nd [] = 0 := by
  unfold Go.Proofs.Ytlmkhieojgpgcaa.liveE dirE
  rw [h.on, h.names]; rfl
theorem RelP.listN (h : RelP s ps) : listN s nd = (nowl s).map (·.1) := by
  unfold Go.Proofs.Ytlmkhieojgpgcaa.listN nowl
  rw [if_pos h.liveE, List.map_map]; rfl
theorem RelP.len (h : RelP s ps) : (nowl s).length = ps.length := h.all.length_eq
theorem RelP.tot_all (h : RelP s ps) : tot (nowl s) = s.used := (tot_perm h.all).trans h.used.symm
theorem RelP.read (h : RelP s ps) (hw : Wf s) (k : Nat) (hk : k < (nowl s).length) : lfE s nd (nowl s)[k].1 [] = 0 ∧ readB s nd (nowl s)[k].1 = (nowl s)[k].2 ∧ (nowl s)[k].1.length ≤ 32 := by
  have hk' : k < (s.dir nd).now.length := by simpa [nowl] using hk
  have hin : nd ∈ s.names := by rw [h.names]; exact List.mem_singleton.2 rfl
  have hm := List.getElem_mem hk'
  have hg : mget (s.dir nd).now (s.dir nd).now[k].1 = some (s.dir nd).now[k].2 := mget_mem h.rising hm
  have he : (nowl s)[k] = ((s.dir nd).now[k].1, bytesOf s (s.dir nd).now[k].2) := by simp [nowl]
  have hr := h.rights _ hm
  have h0 : lfE s nd (s.dir nd).now[k].1 [] = 0 := by
    unfold lfE fileE dirE
    rw [h.on, if_pos rfl, h.names, hg]
    simp [hr, nd_right]
  rw [he]
  refine ⟨h0, ?_, right_len hr⟩
  unfold readB fileOf
  rw [if_pos h0, hg]; rfl
theorem RelP.idx (h : RelP s ps) (k : Nat) (hk : k < (nowl s).length) : ∃ i, idx ps (nowl s)[k].1 = some i ∧ ps[i]? = some (nowl s)[k] := by
  have hm : (nowl s)[k] ∈ ps := h.all.mem_iff.1 (List.getElem_mem hk)
  obtain ⟨⟨y, b⟩, hyb⟩ : ∃ z, (nowl s)[k] = z := ⟨_, rfl⟩
  rw [hyb] at hm ⊢
  obtain ⟨i, hi⟩ := idx_of_mem hm
  refine ⟨i, hi, ?_⟩
  obtain ⟨l, b', r, rfl, rfl⟩ := idx_split hi
  have h1 := (h.perm List.perm_middle).head
  have : b' = b := by
    rcases List.mem_cons.1 (List.perm_middle.mem_iff.1 hm) with e | e
    · exact (Prod.mk.inj e).2.symm
    · exact absurd (List.mem_map.2 ⟨_, e, rfl⟩) h1.1
  simp [this]
theorem RelP.before (h : RelP s ps) (k : Nat) (hk : k + 1 < (nowl s).length) : (nowl s)[k].1 < (nowl s)[k + 1].1 := by
  have hk' : k + 1 < (s.dir nd).now.length := by simpa [nowl] using hk
  have := List.pairwise_iff_getElem.1 h.rising k (k + 1) (by omega) hk' (by omega)
  simpa [nowl] using this
end
section
variable {B f : Nat} {s : Fs} {cn cd : Nat} {nv dv : Value} {ns ds : List Nm} {w0 w w' : World} {ps : Pl}
theorem St.later (h : St B f s cn cd nv dv ns ds w0 w) (hb : Below w.heap.size w w') : St B f s cn cd nv dv ns ds w0 w' := by
  obtain ⟨Kp, hr, hm⟩ := h.here
  have k := Ch.of_below hb
  exact ⟨⟨Kp, hr.below hb, hm.ch k fun _ _ e => e⟩, h.bel.trans (hb.mono h.size), h.low⟩
theorem St.list (h : St B f s cn cd nv dv ns ds w0 w) (hr : RelP s ps) (wf : Wf s) : Calls Try.prog 17 #[.pointer (some ⟨f, 0, none⟩), .string (txt nd)] w fun e w' => ∃ A c, e = .returned (.tuple #[.slice A ps.length c, .int .i64 0]) ∧ (ps.length ≤ c ∧ ∀ j (h : j < (nowl s).length), ∃ g, A = some ⟨g, 0, none⟩ ∧ w'.cell? ⟨g, j, none⟩ = some (.string (txt (nowl s)[j].1))) ∧ Below w.heap.size w w' := by
  obtain ⟨Kp, hp, hm⟩ := h.here
  refine (list_any hp wf nd).mono fun e w' ⟨v, h1, h2, h3⟩ => ?_
  rw [hr.liveE] at h1
  rw [hr.listN] at h2
  obtain ⟨A, c, rfl⟩ := own_slice h2
  obtain ⟨h4, h5⟩ := own_strs h2 rfl
  rw [List.length_map, hr.len] at h1 h4
  refine ⟨A, c, h1, ⟨h4, fun j hj => ?_⟩, h3⟩
  obtain ⟨g, e1, e2⟩ := h5 j (by simpa using hj)
  exact ⟨g, e1, by rw [e2, List.getElem_map]⟩
theorem St.read (h : St B f s cn cd nv dv ns ds w0 w) (hr : RelP s ps) (wf : Wf s) (k : Nat) (hk : k < (nowl s).length) (y : Nm) (b : List UInt8) (hy : (nowl s)[k] = (y, b)) : Calls Try.prog 18 #[.pointer (some ⟨f, 0, none⟩), .string (txt nd), .string (txt y)] w fun e w' => ∃ A c, e = .returned (.tuple #[.slice A b.length c, .int .i64 0]) ∧ Buf w.heap.size A b.length c b w' ∧ Below w.heap.size w w' := by
  obtain ⟨Kp, hp, hm⟩ := h.here
  obtain ⟨e1, e2, _⟩ := hr.read wf k hk
  rw [hy] at e1 e2
  refine (read_any hp wf nd y).mono fun e w' ⟨A, n, c, h1, h2, h3⟩ => ?_
  have e1' : lfE s nd y [] = 0 := e1
  have e2' : readB s nd y = b := e2
  rw [e1'] at h1
  rw [e2'] at h2
  obtain rfl := h2.1
  exact ⟨A, c, h1, h2, h3⟩
theorem St.used (h : St B f s cn cd nv dv ns ds w0 w) : Calls Try.prog 23 #[.pointer (some ⟨f, 0, none⟩)] w fun e w' => e = .returned (.int .i64 s.used) ∧ w = w' := by
  obtain ⟨Kp, hp, hm⟩ := h.here
  exact used_any hp
theorem St.find (h : St B f s cn cd nv dv ns ds w0 w) (hl2 : ns.length ≤ 1000000) (n : Nm) :
    Calls Try.prog 25 #[.string (txt n), adr cn] w fun e w' => e = .returned (.int .i64 (idxI ns n)) ∧ w = w' := by
  obtain ⟨Kp, _, hm⟩ := h.here
  exact find_any ns cn ns.length nv w rfl hm.vn hm.rn hl2 n
theorem St.forms (h : St B f s cn cd nv dv ns ds w0 w) : (∃ A c, nv = .slice A ns.length c ∧ w.cell? ⟨cn, 0, none⟩ = some (.slice A ns.length c)) ∧ ∃ A c, dv = .slice A ds.length c ∧ w.cell? ⟨cd, 0, none⟩ = some (.slice A ds.length c) ∧ ds.length ≤ c ∧ ∀ j (h : j < ds.length), ∃ g, A = some ⟨g, 0, none⟩ ∧ w.cell? ⟨g, j, none⟩ = some (.string (txt ds[j])) := by
  obtain ⟨Kp, _, hm⟩ := h.here
  have h1 := hm.vn.cell 0
  have h2 := hm.vd.cell 0
  obtain ⟨A, c, rfl⟩ := own_slice hm.rn
  obtain ⟨A', c', rfl⟩ := own_slice hm.rd
  obtain ⟨h4, h5⟩ := own_strs hm.rd rfl
  exact ⟨⟨A, c, rfl, h1⟩, A', c', rfl, h2, h4, h5⟩
end
end Go.Proofs.Ytlmkhieojgpgcaa
