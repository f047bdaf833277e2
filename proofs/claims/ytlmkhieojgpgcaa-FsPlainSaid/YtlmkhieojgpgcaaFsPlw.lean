/- The statement FsPlain: the walk. -/
import Derived.Test.YtlmkhieojgpgcaaFsPlf
import Derived.Test.YtlmkhieojgpgcaaFsHeavy
namespace Go.Proofs.Ytlmkhieojgpgcaa
open Go.ChangeShapes Go.WideShapes Go.ChangeAt Go.RowKit Go.ChangeMaps Go.MapKept
set_option linter.unusedVariables false

theorem idxI_map (ps : Pl) (n : Nm) : idxI (ps.map (·.1)) n = match idx ps n with | none => -1 | some i => (i : Int) := by
  unfold idxI idxN idx
  rw [List.findIdx?_map]
  rfl
theorem idxI_some {ps : Pl} {n : Nm} {i : Nat} (h : idx ps n = some i) : idxI (ps.map (·.1)) n = (i : Int) := by rw [idxI_map, h]
theorem idxI_no {ps : Pl} {n : Nm} (h : idx ps n = none) : idxI (ps.map (·.1)) n = -1 := by rw [idxI_map, h]
theorem txt_app (a b : List UInt8) : txt a ++ txt b = txt (a ++ b) := by
  apply str_ext
  simp [txt, ByteArray.data_append]
/-- At the loop's head, k calls behind it. -/
structure PlAt (B f : Nat) (cn cd k : Nat) (w0 w : World) : Prop where
  here : ∃ (s : Fs) (ps : Pl) (nv dv : Value), St B f s cn cd nv dv (ps.map (·.1)) (ps.map (·.2)) w0 w ∧ RelP s ps ∧ WfK (k + 1) s ∧ ps.length ≤ k
theorem PlAt.next {B f : Nat} {s : Fs} {cn cd k ca : Nat} {nv dv : Value} {ns ds : List Nm} {av : Array Value} {ta : TypeId} {w0 w : World} {ps : Pl} (h : All B f s cn cd nv dv ns ds ca av ta w0 w) (hn : ns = ps.map (·.1)) (hd : ds = ps.map (·.2)) (hr : RelP s ps) (hw : WfK (k + 2) s) (hl : ps.length ≤ k + 1) : PlAt B f cn cd (k + 1) w0 w := by
  subst hn; subst hd
  exact ⟨s, ps, nv, dv, h.st, hr, hw, hl⟩
theorem create_none {s : Fs} {ps : Pl} {n : Nm} (hr : RelP s ps) (hE : (createR s nd n 0).1 = 0) : idx ps n = none := by
  unfold createR at hE
  by_cases h1 : liveE s nd [n] ≠ 0
  · rw [if_pos h1] at hE; exact absurd hE h1
  · rw [if_neg h1] at hE
    by_cases h2 : (mget (s.dir nd).now n).isSome
    · rw [if_pos h2] at hE; simp at hE
    · exact idx_none.2 (hr.none_ (by simpa using h2))
theorem at_create {B f : Nat} {s : Fs} {cn cd k ca : Nat} {nv dv : Value} {av : Array Value} {ta : TypeId} {w0 w : World} {ps : Pl} {n : Nm} {x : Nat} (hr : RelP s ps) (hw : WfK (k + 1) s) (hl : ps.length ≤ k) (hx : s.file x = none) (hE : (createR s nd n 0).1 = 0)
    (h : All B f (createR s nd n x).2 cn cd nv dv (ps.map (·.1) ++ [n]) (ps.map (·.2) ++ [[]]) ca av ta w0 w) : PlAt B f cn cd (k + 1) w0 w := by
  have := (rel_create hr n x hx).1 (by rw [createE]; exact hE)
  exact PlAt.next h (by simp) (by simp) this.2 (wfk_create hw nd n x) (by simp; omega)
theorem no_create {B f : Nat} {s : Fs} {cn cd k ca : Nat} {nv dv : Value} {av : Array Value} {ta : TypeId} {w0 w : World} {ps : Pl} {n : Nm} {x : Nat} {E : Int} (hr : RelP s ps) (hw : WfK (k + 1) s) (hl : ps.length ≤ k) (hx : s.file x = none) (hE : (createR s nd n 0).1 = E) (hE0 : ¬ E = 0)
    (h : All B f (createR s nd n x).2 cn cd nv dv (ps.map (·.1)) (ps.map (·.2)) ca av ta w0 w) : PlAt B f cn cd (k + 1) w0 w := by
  have := (rel_create hr n x hx).2 (by rw [createE, hE]; exact hE0)
  rw [this] at h
  exact PlAt.next h rfl rfl hr (hw.mono (by omega)) (by omega)
theorem no_call {B f : Nat} {s : Fs} {r : Int × Fs} {cn cd k ca : Nat} {nv dv : Value} {av : Array Value} {ta : TypeId} {w0 w : World} {ps : Pl} (hr : RelP s ps) (hw : WfK (k + 1) s) (hl : ps.length ≤ k) (hE : r.2 = s)
    (h : All B f r.2 cn cd nv dv (ps.map (·.1)) (ps.map (·.2)) ca av ta w0 w) : PlAt B f cn cd (k + 1) w0 w := by
  rw [hE] at h
  exact PlAt.next h rfl rfl hr (hw.mono (by omega)) (by omega)
theorem erase_map {α β : Type} (g : α → β) (l : List α) (i : Nat) : (l.map g).eraseIdx i = (l.eraseIdx i).map g := by
  rw [List.eraseIdx_eq_take_drop_succ, List.eraseIdx_eq_take_drop_succ, List.map_append, List.map_take, List.map_drop]
theorem set_fst {ps : Pl} {i : Nat} {n : Nm} {b b' : List UInt8} (h : ps[i]? = some (n, b)) : (ps.set i (n, b')).map (·.1) = ps.map (·.1) := by
  rw [List.map_set]
  apply List.ext_getElem?
  intro j
  rw [List.getElem?_set]
  split
  · rename_i e
    subst e
    rw [List.length_map, List.getElem?_map, h]
    have := (List.getElem?_eq_some_iff.1 h).1
    rw [if_pos this]; rfl
  · rfl
theorem at_append {B f : Nat} {s : Fs} {cn cd k ca : Nat} {nv dv : Value} {av : Array Value} {ta : TypeId} {w0 w : World} {ps : Pl} {n : Nm} {i : Nat} {b news : List UInt8} (hr : RelP (appendR s nd n news).2 (ps.set i (n, b ++ news))) (hw : WfK (k + 1) s) (hl : ps.length ≤ k) (hi : ps[i]? = some (n, b))
    (h : All B f (appendR s nd n news).2 cn cd nv dv (ps.map (·.1)) ((ps.map (·.2)).set i (b ++ news)) ca av ta w0 w) : PlAt B f cn cd (k + 1) w0 w :=
  PlAt.next h (set_fst hi).symm (by rw [List.map_set]) hr (wfk_append hw nd n news) (by rw [List.length_set]; omega)
theorem at_remove {B f : Nat} {s : Fs} {cn cd k ca : Nat} {nv dv : Value} {av : Array Value} {ta : TypeId} {w0 w : World} {ps : Pl} {n : Nm} {i : Nat} (hr : RelP (removeR s nd n).2 (ps.eraseIdx i)) (hw : WfK (k + 1) s) (hl : ps.length ≤ k)
    (h : All B f (removeR s nd n).2 cn cd nv dv ((ps.map (·.1)).eraseIdx i) ((ps.map (·.2)).eraseIdx i) ca av ta w0 w) : PlAt B f cn cd (k + 1) w0 w :=
  PlAt.next h (erase_map _ _ _) (erase_map _ _ _) hr (wfk_remove hw nd n) (by have := List.length_eraseIdx_le ps i; omega)
theorem less_len (ps : Pl) (m : Nm) : (less ps m).length ≤ ps.length := by
  unfold less
  split
  · exact Nat.le_refl _
  · exact List.length_eraseIdx_le ps _
theorem at_rename {B f : Nat} {s : Fs} {cn cd k ca : Nat} {nv dv : Value} {av : Array Value} {ta : TypeId} {w0 w : World} {ps : Pl} {n m : Nm} {i : Nat} {b : List UInt8} {ns ds : List Nm} (hr : RelP (renameR s nd n m).2 (less (ps.eraseIdx i) m ++ [(m, b)])) (hw : WfK (k + 1) s) (hl : ps.length ≤ k) (hi : i < ps.length)
    (hns : ns = (less (ps.eraseIdx i) m).map (·.1)) (hds : ds = (less (ps.eraseIdx i) m).map (·.2))
    (h : All B f (renameR s nd n m).2 cn cd nv dv (ns ++ [m]) (ds ++ [b]) ca av ta w0 w) : PlAt B f cn cd (k + 1) w0 w := by
  subst hns; subst hds
  exact PlAt.next h (by simp) (by simp) hr (wfk_rename hw nd n m) (by have := less_len (ps.eraseIdx i) m; have := List.length_eraseIdx_le ps i; simp; omega)
set_option maxHeartbeats 16000000 in
set_option maxRecDepth 20000 in
theorem plain_walk (l : List Ac) (A : Option Addr) (len c : Nat) (w : World) (hl : len = l.length) (hc : len ≤ c) (hm : c ≤ maxLen) (hg : ∀ a ∈ l, a.good w) (hr : RowC Ac.cells 7 w w.heap.size A l) :
    Calls Try.prog 6 #[.slice A len c] w fun e w' => e = .returned (.bool true) ∧ Below w.heap.size w w' := by
  have hcs := fun W s => run_bytes_of_string (P := Try.prog) W 9 31 5 s Try.underlying9 Try.underlying31 Try.underlying5
  have HL := Lib.hid hl
  have HG := Lib.hid hg
  have HR := Lib.hid hr
  have hm2 : len ≤ 9223372036854775807 := by unfold maxLen at hm; omega
  have HHV := Lib.hid (fun (w1 : World) (hb : Below w.heap.size w w1) => heavy_any l A len c w1 hl (Nat.le_trans hc hm) (fun a ha => { hg a ha with row := ((hg a ha).row.below hb).more hb.size }) ((hr.below hb).more hb.size))
  clear hl hg hr hc hm
  go_enter Try.func6, Try.ntmps6
  go_wp2_with (first
    | (go_at_call 7; refine (alive_any _).mono ?_; rintro e w1 ⟨rfl, hb1⟩; have HB1 := Lib.hid hb1; clear hb1)
    | (go_at_call 24; refine (HHV.out w1 HB1.out).mono ?_; rintro e w2 ⟨hv, rfl, h1, h2⟩; have HLT := Lib.hid h1; have HB2 := Lib.hid (HB1.out.trans (h2.mono HB1.out.size)); clear h1 h2)
    | (go_at_call 8; refine (new_any (Kp := fun _ => False) 268435456 rfl w2 (fun _ h => h.elim)).mono ?_; rintro e w3 ⟨f, rfl, h1, h2⟩; have HR3 := Lib.hid h1; have HB3 := Lib.hid h2; clear h1 h2)
    | (go_at_call 9; refine (mkdir_any HR3.out ((WfK.new (room := 268435456) rfl).wf (by decide)) HB3.out.size nd).mono ?_; unfold Post; rw [show (mkdirR (newFs 268435456) nd).1 = 0 from rfl]; rintro e w4 ⟨rfl, h1, h2⟩; have HR4 := Lib.hid h1; have HB4 := Lib.hid (HB3.out.trans h2.below); clear h1 h2))
  · go_ret
    exact ⟨rfl, HB2.out⟩
  have hvf : hv = false := by assumption
  have HLI := Lib.hid (HLT.out hvf)
  have HP1 := Lib.hid (show PlAt w2.heap.size f w4.heap.size (w4.heap.size + 1) 0 w2 _ from ⟨_, [], _, _, St.start HR4.out HB4.out (Nat.le_refl _), RelP.new (room := 268435456) (by decide), wfk_mkdir (WfK.new rfl) nd, Nat.le_refl _⟩)
  clear HR3 HB3 HR4 HB4 HHV HLT hvf
  go_loopw [9] (fun iv wr => ∃ k : Nat, k ≤ len ∧ k ≤ 100 ∧ iv = .int .i64 (k : Int) ∧ Hid (PlAt w2.heap.size f w4.heap.size (w4.heap.size + 1) k w2 wr)) (fun iv _ => len - (intOf iv).toNat)
  case atStart => exact ⟨0, Nat.zero_le _, Nat.zero_le _, rfl, HP1⟩
  case round =>
    obtain ⟨k, hk1, hk2, rfl, HP⟩ := hrel
    clear HP1
    by_cases hlt : k < len
    · by_cases h100 : k < 100
      · have hd1 : decide ((k : Int) < (len : Int)) = true := decide_eq_true (by omega)
        have hd2 : decide ((k : Int) < (100 : Int)) = true := decide_eq_true (by omega)
        have hkl : k < l.length := by rw [← HL.out]; exact hlt
        obtain ⟨b, off, rfl, hbl, h0⟩ := HR.out k hkl
        have hlt2 := HLI.out.2 _ (List.getElem_mem hkl)
        obtain ⟨x, hx⟩ : ∃ x, l[k] = x := ⟨_, rfl⟩
        rw [hx] at h0 hlt2
        obtain ⟨K, xd, xn, xb, N, T, XA, xc, xps⟩ := x
        obtain ⟨dd, rfl⟩ : ∃ y, xd = txt y := ⟨_, (txt_data xd).symm⟩
        obtain ⟨nn, rfl⟩ : ∃ y, xn = txt y := ⟨_, (txt_data xn).symm⟩
        obtain ⟨bb, rfl⟩ : ∃ y, xb = txt y := ⟨_, (txt_data xb).symm⟩
        obtain ⟨pn, hpn⟩ : ∃ y, xps.length = y := ⟨_, rfl⟩
        simp only [Ac.cells, hpn] at h0
        have hbb : bb.length ≤ 20000 := by have := hlt2.1; rwa [txt_size] at this
        obtain ⟨s, ps, nv, dv, hst, hrel, hwf, hpl⟩ := HP.out
        have hbw : Below w.heap.size w wr := HB2.out.trans (hst.bel.mono HB2.out.size)
        have cc : ∀ i v, ([.int .i64 K, .string (txt dd), .string (txt nn), .string (txt bb), .int .i64 N, .int .u8 T, .slice XA pn xc] : List Value)[i]? = some v → wr.cell? ⟨b, off + k * 7 + i, none⟩ = some v := fun i v hv => (hbw.cell (p := ⟨b, _, none⟩) hbl).trans (h0 i v hv)
        have e0 : wr.cell? ⟨b, off + k * 7, none⟩ = some (.int .i64 K) := cc 0 _ rfl
        have e1 := cc 1 _ rfl
        have e2 := cc 2 _ rfl
        have e3 := cc 3 _ rfl
        have e4 := cc 4 _ rfl
        have e5 := cc 5 _ rfl
        have e6 := cc 6 _ rfl
        clear cc h0 hlt2 hx hpn hbw HP
        have HA := Lib.hid (hst.lay #[.int .i64 K, .string (txt dd), .string (txt nn), .string (txt bb), .int .i64 N, .int .u8 T, .slice XA pn xc] 43)
        have hls : (ps.map (·.1)).length ≤ 1000000 := by rw [List.length_map]; omega
        have HFI := Lib.hid (HA.out.find hls nn)
        have HWF := Lib.hid (hwf.wf (by omega))
        have HWK := Lib.hid hwf
        have HRL := Lib.hid hrel
        have HPL := Lib.hid hpl
        have hps : ps.length ≤ 100 := by omega
        have ra := fun i => HA.out.reads.2 i
        have r0 := ra 0
        have r2 := ra 2
        have r3 := ra 3
        clear hst hwf hrel hpl ra
        by_cases hK1 : K = 1
        · subst hK1
          obtain ⟨E, hE⟩ : ∃ E, (createR s nd nn 0).1 = E := ⟨_, rfl⟩
          have HE := Lib.hid hE
          by_cases hE0 : E = 0
          · subst hE0
            have HC := Lib.hid (HA.out.create HWF.out nn 0 hE)
            clear hE
            rw [idxI_no (create_none HRL.out HE.out)] at HFI
            go_wp2_with (first
              | (go_at_call 25; refine HFI.out.mono ?_; rintro e w5 ⟨rfl, rfl⟩)
              | (go_at_call 10; refine HC.out.mono ?_; rintro e w6 ⟨x, rfl, hx, h6⟩; have HX := Lib.hid hx; have HA6 := Lib.hid h6; have q1 := h6.reads.1.1; have q2 := h6.reads.1.2.1; have q6 := h6.reads.1.2.2.1; have q7 := h6.reads.1.2.2.2; have q3 : w6.cell? ⟨wr.heap.size, 2, none⟩ = some (.string (txt nn)) := h6.reads.2 2; have q8 : w6.cell? ⟨wr.heap.size, 3, none⟩ = some (.string (txt bb)) := h6.reads.2 3; clear hx h6)
              | (at_builtin; go_loud (refine push_strs rfl _ _ rfl w6 nv ps.length (ps.map (·.1)) rfl (by have := HA6.out.rn; rwa [show (ps.map (·.1)).length = ps.length by simp] at this) (txt nn) _ rfl (by simp) (by omega) HA6.out.size ?_); intro A7 c7 w7 hp7; obtain ⟨⟨_, q4a⟩, q4b, ⟨_, q4c⟩, q4d⟩ := Pushed.reads HA6.out hp7 (.inl rfl); have HA7 := Lib.hid (HA6.out.push_n ⟨by decide, by decide⟩ (by simp) hp7); have q4e := HA7.out.reads.1.1; have q4f := HA7.out.reads.1.2.2.1; have q4g := HA7.out.reads.1.2.1; have q4h := HA7.out.reads.1.2.2.2; clear hp7)
              | (at_builtin; go_loud (refine push_strs rfl _ _ rfl (w7.setCell ⟨w4.heap.size, 0, none⟩ (.slice A7 (ps.length + 1) c7)) dv ps.length (ps.map (·.2)) rfl (by have := HA7.out.rd; rwa [show (ps.map (·.2)).length = ps.length by simp] at this) ⟨#[]⟩ _ rfl (by simp) (by omega) HA7.out.size ?_); intro A8 c8 w8 hp8; obtain ⟨⟨_, q5a⟩, q5b, ⟨_, q5c⟩, q5d⟩ := Pushed.reads HA7.out hp8 (.inr rfl); have HA8 := Lib.hid (HA7.out.push_d ⟨by decide, by decide⟩ (by simp) hp8); have q5e := HA8.out.reads.1.1; have q5f := HA8.out.reads.1.2.2.1; have q5g := HA8.out.reads.1.2.1; have q5h := HA8.out.reads.1.2.2.2; clear hp8))
            go_roundw
            case rel => exact ⟨k + 1, by omega, by omega, by go_num, Lib.hid (at_create HRL.out HWK.out HPL.out HX.out HE.out HA8.out)⟩
            case measure => simp [intOf]; omega
          · have hEb : (E == 0) = false := by rw [beq_eq_false_iff_ne]; exact hE0
            have HC := Lib.hid (HA.out.create HWF.out nn E hE)
            clear hE
            go_wp2_with (first
              | (go_at_call 25; refine HFI.out.mono ?_; rintro e w5 ⟨rfl, rfl⟩)
              | (go_at_call 10; refine HC.out.mono ?_; rintro e w6 ⟨x, rfl, hx, h6⟩; have HX := Lib.hid hx; have HA6 := Lib.hid h6; have q1 := h6.reads.1.1; have q2 := h6.reads.1.2.1; have q6 := h6.reads.1.2.2.1; have q7 := h6.reads.1.2.2.2; have q3 : w6.cell? ⟨wr.heap.size, 2, none⟩ = some (.string (txt nn)) := h6.reads.2 2; have q8 : w6.cell? ⟨wr.heap.size, 3, none⟩ = some (.string (txt bb)) := h6.reads.2 3; clear hx h6))
            go_roundw
            case rel => exact ⟨k + 1, by omega, by omega, by go_num, Lib.hid (no_create HRL.out HWK.out HPL.out HX.out HE.out hE0 HA6.out)⟩
            case measure => simp [intOf]; omega
        · have hk1b : (K == 1) = false := by rw [beq_eq_false_iff_ne]; exact hK1
          by_cases hK2 : K = 2
          · subst hK2
            obtain ⟨E, hE⟩ : ∃ E, (appendR s nd nn bb).1 = E := ⟨_, rfl⟩
            have HE := Lib.hid hE
            by_cases hE0 : E = 0
            · subst hE0
              obtain ⟨i, dx, hi, hpi, hrel2⟩ := (rel_append HRL.out nn bb).1 HE.out
              have HPI := Lib.hid hpi
              have HRL2 := Lib.hid hrel2
              have hil := (List.getElem?_eq_some_iff.1 hpi).1
              have hdi : decide ((i : Int) < 0) = false := decide_eq_false (by omega)
              rw [idxI_some hi] at HFI
              obtain ⟨g, dc, hdv, hdc, hcell, hfz⟩ := HA.out.item i (by simpa using hil)
              subst hdv
              have hxi : (ps.map (·.2))[i]'(by simpa using hil) = dx := by
                have := (List.getElem?_eq_some_iff.1 hpi).2
                rw [List.getElem_map, this]
              have HXI := Lib.hid hxi
              rw [List.length_map] at hdc
              have hdx : dx.length ≤ 16777216 := by
                obtain ⟨y, sf, _, hy⟩ := (HRL.out.mem nn dx).1 (List.mem_of_getElem? hpi)
                exact (HWK.out.files y dx sf hy).1
              clear hrel2 hi hpi hxi hcell hfz
              have hta : txt dx ++ txt bb = txt (dx ++ bb) := txt_app dx bb
              have hsz : ¬ 9223372036854775807 < (txt dx).size + (txt bb).size := by rw [txt_size, txt_size]; omega
              have hi0 : (i : Int) < (ps.length : Int) := by omega
              clear hE
              go_wp2_with (first
                | (go_at_call 25; refine HFI.out.mono ?_; rintro e w5 ⟨rfl, rfl⟩)
                | (go_at_call 11; go_loud (refine (HA.out.append HWF.out nn bb (by omega) _ (by simp) _ HE.out _ _ _).mono ?_); rintro e w6 ⟨rfl, h6⟩; have HA6 := Lib.hid h6; have q1 := h6.reads.1.1; have q2 := h6.reads.1.2.1; have q6 := h6.reads.1.2.2.1; have q7 := h6.reads.1.2.2.2; have q3 : w6.cell? ⟨wr.heap.size, 2, none⟩ = some (.string (txt nn)) := h6.reads.2 2; have q8 : w6.cell? ⟨wr.heap.size, 3, none⟩ = some (.string (txt bb)) := h6.reads.2 3; obtain ⟨gc, gf⟩ := h6.item2 i (by simpa using hil); have q9 : w6.cell? ⟨g, i, none⟩ = some (.string (txt dx)) := (by rw [gc, HXI.out]); clear h6 gc))
              go_region
              go_wp2
              go_roundw
              case rel => exact ⟨k + 1, by omega, by omega, by go_num, Lib.hid (at_append HRL2.out HWK.out HPL.out HPI.out ((HA6.out.store ⟨by decide, by decide⟩ i (by simpa using hil) (dx ++ bb)).later (Below.refl _ _).drew))⟩
              case measure => simp [intOf]; omega
            · have hEb : (E == 0) = false := by rw [beq_eq_false_iff_ne]; exact hE0
              clear hE
              go_wp2_with (first
                | (go_at_call 25; refine HFI.out.mono ?_; rintro e w5 ⟨rfl, rfl⟩)
                | (go_at_call 11; go_loud (refine (HA.out.append HWF.out nn bb (by omega) _ (by simp) _ HE.out _ _ _).mono ?_); rintro e w6 ⟨rfl, h6⟩; have HA6 := Lib.hid h6; have q1 := h6.reads.1.1; have q2 := h6.reads.1.2.1; have q6 := h6.reads.1.2.2.1; have q7 := h6.reads.1.2.2.2; have q3 : w6.cell? ⟨wr.heap.size, 2, none⟩ = some (.string (txt nn)) := h6.reads.2 2; have q8 : w6.cell? ⟨wr.heap.size, 3, none⟩ = some (.string (txt bb)) := h6.reads.2 3; clear h6))
              go_roundw
              case rel => exact ⟨k + 1, by omega, by omega, by go_num, Lib.hid (no_call HRL.out HWK.out HPL.out ((rel_append HRL.out nn bb).2 (by rw [HE.out]; exact hE0)) HA6.out)⟩
              case measure => simp [intOf]; omega
          · have hk2b : (K == 2) = false := by rw [beq_eq_false_iff_ne]; exact hK2
            by_cases hK5 : K = 5
            · subst hK5
              obtain ⟨E, hE⟩ : ∃ E, (renameR s nd nn bb).1 = E := ⟨_, rfl⟩
              have HE := Lib.hid hE
              by_cases hE0 : E = 0
              · subst hE0
                obtain ⟨i, dx, hi, hpi, hrel2⟩ := (rel_rename HRL.out nn bb).1 HE.out
                have HPI := Lib.hid hpi
                have HRL2 := Lib.hid hrel2
                have hil := (List.getElem?_eq_some_iff.1 hpi).1
                have hdi : decide ((i : Int) < 0) = false := decide_eq_false (by omega)
                rw [idxI_some hi] at HFI
                obtain ⟨g, dc, hdv, hdc, hcell, hfz⟩ := HA.out.item i (by simpa using hil)
                subst hdv
                have hxi : (ps.map (·.2))[i]'(by simpa using hil) = dx := by
                  have := (List.getElem?_eq_some_iff.1 hpi).2
                  rw [List.getElem_map, this]
                have HXI := Lib.hid hxi
                rw [List.length_map] at hdc
                have hdx : dx.length ≤ 16777216 := by
                  obtain ⟨y, sf, _, hy⟩ := (HRL.out.mem nn dx).1 (List.mem_of_getElem? hpi)
                  exact (HWK.out.files y dx sf hy).1
                clear hrel2 hi hpi hxi hcell hfz
                clear hE
                obtain ⟨ps2, hps2⟩ : ∃ y, ps.eraseIdx i = y := ⟨_, rfl⟩
                have HPS2 := Lib.hid hps2
                have hp2 : ps2.length ≤ 100 := by have := List.length_eraseIdx_le ps i; rw [hps2] at this; omega
                clear hps2
                cases hj : idx ps2 bb with
                | none =>
                  have HI2 := Lib.hid (idxI_no hj)
                  have HLS := Lib.hid (show less (ps.eraseIdx i) bb = ps2 by rw [HPS2.out]; unfold less; rw [hj])
                  clear hj
                  go_wp2_with (first
                    | (go_at_call 25; have HT := HOUT1; refine (HA7.out.find (by simp; omega) bb).mono ?_; rw [HI2.out]; rintro e w7b ⟨rfl, rfl⟩; have HFIND2 := Lib.hid True.intro)
                    | (go_at_call 25; refine HFI.out.mono ?_; rintro e w5 ⟨rfl, rfl⟩)
                    | (go_at_call 15; go_loud (refine (HA.out.call _ HE.out fun Kp hr => rename_any hr HWF.out HA.out.size nd nn bb).mono ?_); rintro e w6 ⟨rfl, h6⟩; have HA6 := Lib.hid h6; have q1 := h6.reads.1.1; have q2 := h6.reads.1.2.1; have q6 := h6.reads.1.2.2.1; have q7 := h6.reads.1.2.2.2; have q3 : w6.cell? ⟨wr.heap.size, 2, none⟩ = some (.string (txt nn)) := h6.reads.2 2; have q8 : w6.cell? ⟨wr.heap.size, 3, none⟩ = some (.string (txt bb)) := h6.reads.2 3; obtain ⟨gc, gf⟩ := h6.item2 i (by simpa using hil); have q9 : w6.cell? ⟨g, i, none⟩ = some (.string (txt dx)) := (by rw [gc, HXI.out]); clear h6 gc)
                    | (go_at_call 26; refine (HA6.out.out ⟨by decide, by decide⟩ (by simp) (by simp; omega) (by simpa using hil)).mono ?_; rintro e w7 ⟨rfl, nv7, dv7, h7⟩; rw [erase_map, erase_map, HPS2.out] at h7; have HA7 := Lib.hid h7; have p1 := h7.reads.1.1; have p2 := h7.reads.1.2.1; have p6 := h7.reads.1.2.2.1; have p7 := h7.reads.1.2.2.2; have p3 : w7.cell? ⟨wr.heap.size, 2, none⟩ = some (.string (txt nn)) := h7.reads.2 2; have p8 : w7.cell? ⟨wr.heap.size, 3, none⟩ = some (.string (txt bb)) := h7.reads.2 3; have HOUT1 := Lib.hid True.intro; clear h7)
                    | (at_builtin; go_loud (refine push_strs rfl _ _ rfl w7 nv7 ps2.length (ps2.map (·.1)) rfl (by have := HA7.out.rn; rwa [show (ps2.map (·.1)).length = ps2.length by simp] at this) (txt bb) _ rfl (by simp) (by omega) HA7.out.size ?_); intro A8 c8 w8 hp8; obtain ⟨⟨_, q4a⟩, q4b, ⟨_, q4c⟩, q4d⟩ := Pushed.reads HA7.out hp8 (.inl rfl); have HA8 := Lib.hid (HA7.out.push_n ⟨by decide, by decide⟩ (by simp) hp8); have q4e := HA8.out.reads.1.1; have q4f := HA8.out.reads.1.2.2.1; have q4g := HA8.out.reads.1.2.1; have q4h := HA8.out.reads.1.2.2.2; clear hp8)
                    | (at_builtin; go_loud (refine push_strs rfl _ _ rfl (w8.setCell ⟨w4.heap.size, 0, none⟩ (.slice A8 (ps2.length + 1) c8)) dv7 ps2.length (ps2.map (·.2)) rfl (by have := HA8.out.rd; rwa [show (ps2.map (·.2)).length = ps2.length by simp] at this) (txt dx) _ rfl (by simp) (by omega) HA8.out.size ?_); intro A9 c9 w9 hp9; obtain ⟨⟨_, q5a⟩, q5b, ⟨_, q5c⟩, q5d⟩ := Pushed.reads HA8.out hp9 (.inr rfl); have HA9 := Lib.hid (HA8.out.push_d ⟨by decide, by decide⟩ (by simp) hp9); have q5e := HA9.out.reads.1.1; have q5f := HA9.out.reads.1.2.2.1; have q5g := HA9.out.reads.1.2.1; have q5h := HA9.out.reads.1.2.2.2; clear hp9))
                  go_roundw
                  case rel => exact ⟨k + 1, by omega, by omega, by go_num, Lib.hid (at_rename HRL2.out HWK.out HPL.out hil (by rw [HLS.out]) (by rw [HLS.out]) HA9.out)⟩
                  case measure => simp [intOf]; omega
                | some j =>
                  have HI2 := Lib.hid (idxI_some hj)
                  obtain ⟨ps3, hps3⟩ : ∃ y, ps2.eraseIdx j = y := ⟨_, rfl⟩
                  have HPS3 := Lib.hid hps3
                  have hp3 : ps3.length ≤ 100 := by have := List.length_eraseIdx_le ps2 j; rw [hps3] at this; omega
                  have HLS := Lib.hid (show less (ps.eraseIdx i) bb = ps3 by rw [HPS2.out]; unfold less; rw [hj]; exact hps3)
                  have hjl : j < ps2.length := by obtain ⟨y, hy⟩ := idx_at hj; exact (List.getElem?_eq_some_iff.1 hy).1
                  have hdj : decide ((0 : Int) ≤ (j : Int)) = true := decide_eq_true (by omega)
                  clear hj hps3
                  go_wp2_with (first
                    | (go_at_call 25; have HT := HOUT1; refine (HA7.out.find (by simp; omega) bb).mono ?_; rw [HI2.out]; rintro e w7b ⟨rfl, rfl⟩; have HFIND2 := Lib.hid True.intro)
                    | (go_at_call 25; refine HFI.out.mono ?_; rintro e w5 ⟨rfl, rfl⟩)
                    | (go_at_call 15; go_loud (refine (HA.out.call _ HE.out fun Kp hr => rename_any hr HWF.out HA.out.size nd nn bb).mono ?_); rintro e w6 ⟨rfl, h6⟩; have HA6 := Lib.hid h6; have q1 := h6.reads.1.1; have q2 := h6.reads.1.2.1; have q6 := h6.reads.1.2.2.1; have q7 := h6.reads.1.2.2.2; have q3 : w6.cell? ⟨wr.heap.size, 2, none⟩ = some (.string (txt nn)) := h6.reads.2 2; have q8 : w6.cell? ⟨wr.heap.size, 3, none⟩ = some (.string (txt bb)) := h6.reads.2 3; obtain ⟨gc, gf⟩ := h6.item2 i (by simpa using hil); have q9 : w6.cell? ⟨g, i, none⟩ = some (.string (txt dx)) := (by rw [gc, HXI.out]); clear h6 gc)
                    | (go_at_call 26; have HT := HFIND2; refine (HA7.out.out ⟨by decide, by decide⟩ (by simp) (by simp; omega) (by simpa using hjl)).mono ?_; rintro e w8 ⟨rfl, nv8, dv8, h8⟩; rw [erase_map, erase_map, HPS3.out] at h8; have HA8 := Lib.hid h8; have r1 := h8.reads.1.1; have r2 := h8.reads.1.2.1; have r6 := h8.reads.1.2.2.1; have r7 := h8.reads.1.2.2.2; have r3 : w8.cell? ⟨wr.heap.size, 2, none⟩ = some (.string (txt nn)) := h8.reads.2 2; have r8 : w8.cell? ⟨wr.heap.size, 3, none⟩ = some (.string (txt bb)) := h8.reads.2 3; clear h8)
                    | (go_at_call 26; refine (HA6.out.out ⟨by decide, by decide⟩ (by simp) (by simp; omega) (by simpa using hil)).mono ?_; rintro e w7 ⟨rfl, nv7, dv7, h7⟩; rw [erase_map, erase_map, HPS2.out] at h7; have HA7 := Lib.hid h7; have p1 := h7.reads.1.1; have p2 := h7.reads.1.2.1; have p6 := h7.reads.1.2.2.1; have p7 := h7.reads.1.2.2.2; have p3 : w7.cell? ⟨wr.heap.size, 2, none⟩ = some (.string (txt nn)) := h7.reads.2 2; have p8 : w7.cell? ⟨wr.heap.size, 3, none⟩ = some (.string (txt bb)) := h7.reads.2 3; have HOUT1 := Lib.hid True.intro; clear h7)
                    | (at_builtin; go_loud (refine push_strs rfl _ _ rfl w8 nv8 ps3.length (ps3.map (·.1)) rfl (by have := HA8.out.rn; rwa [show (ps3.map (·.1)).length = ps3.length by simp] at this) (txt bb) _ rfl (by simp) (by omega) HA8.out.size ?_); intro A9 c9 w9 hp9; obtain ⟨⟨_, q4a⟩, q4b, ⟨_, q4c⟩, q4d⟩ := Pushed.reads HA8.out hp9 (.inl rfl); have HA9 := Lib.hid (HA8.out.push_n ⟨by decide, by decide⟩ (by simp) hp9); have q4e := HA9.out.reads.1.1; have q4f := HA9.out.reads.1.2.2.1; have q4g := HA9.out.reads.1.2.1; have q4h := HA9.out.reads.1.2.2.2; clear hp9)
                    | (at_builtin; go_loud (refine push_strs rfl _ _ rfl (w9.setCell ⟨w4.heap.size, 0, none⟩ (.slice A9 (ps3.length + 1) c9)) dv8 ps3.length (ps3.map (·.2)) rfl (by have := HA9.out.rd; rwa [show (ps3.map (·.2)).length = ps3.length by simp] at this) (txt dx) _ rfl (by simp) (by omega) HA9.out.size ?_); intro A10 c10 w10 hp10; obtain ⟨⟨_, q5a⟩, q5b, ⟨_, q5c⟩, q5d⟩ := Pushed.reads HA9.out hp10 (.inr rfl); have HA10 := Lib.hid (HA9.out.push_d ⟨by decide, by decide⟩ (by simp) hp10); have q5e := HA10.out.reads.1.1; have q5f := HA10.out.reads.1.2.2.1; have q5g := HA10.out.reads.1.2.1; have q5h := HA10.out.reads.1.2.2.2; clear hp10))
                  go_roundw
                  case rel => exact ⟨k + 1, by omega, by omega, by go_num, Lib.hid (at_rename HRL2.out HWK.out HPL.out hil (by rw [HLS.out]) (by rw [HLS.out]) HA10.out)⟩
                  case measure => simp [intOf]; omega
              · have hEb : (E == 0) = false := by rw [beq_eq_false_iff_ne]; exact hE0
                clear hE
                go_wp2_with (first
                  | (go_at_call 25; refine HFI.out.mono ?_; rintro e w5 ⟨rfl, rfl⟩)
                  | (go_at_call 15; go_loud (refine (HA.out.call _ HE.out fun Kp hr => rename_any hr HWF.out HA.out.size nd nn bb).mono ?_); rintro e w6 ⟨rfl, h6⟩; have HA6 := Lib.hid h6; have q1 := h6.reads.1.1; have q2 := h6.reads.1.2.1; have q6 := h6.reads.1.2.2.1; have q7 := h6.reads.1.2.2.2; have q3 : w6.cell? ⟨wr.heap.size, 2, none⟩ = some (.string (txt nn)) := h6.reads.2 2; have q8 : w6.cell? ⟨wr.heap.size, 3, none⟩ = some (.string (txt bb)) := h6.reads.2 3; clear h6))
                go_roundw
                case rel => exact ⟨k + 1, by omega, by omega, by go_num, Lib.hid (no_call HRL.out HWK.out HPL.out ((rel_rename HRL.out nn bb).2 (by rw [HE.out]; exact hE0)) HA6.out)⟩
                case measure => simp [intOf]; omega
            · have hk5b : (K == 5) = false := by rw [beq_eq_false_iff_ne]; exact hK5
              by_cases hK6 : K = 6
              · subst hK6
                obtain ⟨E, hE⟩ : ∃ E, (removeR s nd nn).1 = E := ⟨_, rfl⟩
                have HE := Lib.hid hE
                by_cases hE0 : E = 0
                · subst hE0
                  obtain ⟨i, dx, hi, hpi, hrel2⟩ := (rel_remove HRL.out nn).1 HE.out
                  have HPI := Lib.hid hpi
                  have HRL2 := Lib.hid hrel2
                  have hil := (List.getElem?_eq_some_iff.1 hpi).1
                  have hdi : decide ((i : Int) < 0) = false := decide_eq_false (by omega)
                  rw [idxI_some hi] at HFI
                  obtain ⟨g, dc, hdv, hdc, hcell, hfz⟩ := HA.out.item i (by simpa using hil)
                  subst hdv
                  have hxi : (ps.map (·.2))[i]'(by simpa using hil) = dx := by
                    have := (List.getElem?_eq_some_iff.1 hpi).2
                    rw [List.getElem_map, this]
                  have HXI := Lib.hid hxi
                  rw [List.length_map] at hdc
                  have hdx : dx.length ≤ 16777216 := by
                    obtain ⟨y, sf, _, hy⟩ := (HRL.out.mem nn dx).1 (List.mem_of_getElem? hpi)
                    exact (HWK.out.files y dx sf hy).1
                  clear hrel2 hi hpi hxi hcell hfz
                  clear hE
                  go_wp2_with (first
                    | (go_at_call 25; refine HFI.out.mono ?_; rintro e w5 ⟨rfl, rfl⟩)
                    | (go_at_call 27; go_loud (refine (HA.out.call _ HE.out fun Kp hr => remove_any hr HWF.out HA.out.size nd nn).mono ?_); rintro e w6 ⟨rfl, h6⟩; have HA6 := Lib.hid h6; have q1 := h6.reads.1.1; have q2 := h6.reads.1.2.1; have q6 := h6.reads.1.2.2.1; have q7 := h6.reads.1.2.2.2; have q3 : w6.cell? ⟨wr.heap.size, 2, none⟩ = some (.string (txt nn)) := h6.reads.2 2; have q8 : w6.cell? ⟨wr.heap.size, 3, none⟩ = some (.string (txt bb)) := h6.reads.2 3; clear h6)
                    | (go_at_call 26; refine (HA6.out.out ⟨by decide, by decide⟩ (by simp) (by simp; omega) (by simpa using hil)).mono ?_; rintro e w7 ⟨rfl, nv7, dv7, h7⟩; have HA7 := Lib.hid h7; have p1 := h7.reads.1.1; have p2 := h7.reads.1.2.1; have p6 := h7.reads.1.2.2.1; have p7 := h7.reads.1.2.2.2; have p3 : w7.cell? ⟨wr.heap.size, 2, none⟩ = some (.string (txt nn)) := h7.reads.2 2; have p8 : w7.cell? ⟨wr.heap.size, 3, none⟩ = some (.string (txt bb)) := h7.reads.2 3; have HOUT1 := Lib.hid True.intro; clear h7))
                  go_roundw
                  case rel => exact ⟨k + 1, by omega, by omega, by go_num, Lib.hid (at_remove HRL2.out HWK.out HPL.out HA7.out)⟩
                  case measure => simp [intOf]; omega
                · have hEb : (E == 0) = false := by rw [beq_eq_false_iff_ne]; exact hE0
                  clear hE
                  go_wp2_with (first
                    | (go_at_call 25; refine HFI.out.mono ?_; rintro e w5 ⟨rfl, rfl⟩)
                    | (go_at_call 27; go_loud (refine (HA.out.call _ HE.out fun Kp hr => remove_any hr HWF.out HA.out.size nd nn).mono ?_); rintro e w6 ⟨rfl, h6⟩; have HA6 := Lib.hid h6; have q1 := h6.reads.1.1; have q2 := h6.reads.1.2.1; have q6 := h6.reads.1.2.2.1; have q7 := h6.reads.1.2.2.2; have q3 : w6.cell? ⟨wr.heap.size, 2, none⟩ = some (.string (txt nn)) := h6.reads.2 2; have q8 : w6.cell? ⟨wr.heap.size, 3, none⟩ = some (.string (txt bb)) := h6.reads.2 3; clear h6))
                  go_roundw
                  case rel => exact ⟨k + 1, by omega, by omega, by go_num, Lib.hid (no_call HRL.out HWK.out HPL.out ((rel_remove HRL.out nn).2 (by rw [HE.out]; exact hE0)) HA6.out)⟩
                  case measure => simp [intOf]; omega
              · have hk6b : (K == 6) = false := by rw [beq_eq_false_iff_ne]; exact hK6
                go_wp2_with (first
                  | (go_at_call 25; refine HFI.out.mono ?_; rintro e w5 ⟨rfl, rfl⟩))
                go_roundw
                case rel => exact ⟨k + 1, by omega, by omega, by go_num, Lib.hid (PlAt.next HA.out rfl rfl HRL.out (HWK.out.mono (by omega)) (by have := HPL.out; omega))⟩
                case measure => simp [intOf]; omega
      · have hd1 : decide ((k : Int) < (len : Int)) = true := decide_eq_true (by omega)
        have hd2 : decide ((k : Int) < (100 : Int)) = false := decide_eq_false (by omega)
        clear HLI HG HR HL
        obtain ⟨s, ps, nv, dv, hst, hrl, hwf, hpl⟩ := HP.out
        have hps : ps.length ≤ 100 := by omega
        have wf := hwf.wf (by omega)
        obtain ⟨wq, rfl⟩ : ∃ x, x = wr := ⟨_, rfl⟩
        obtain ⟨⟨A0, c0, rfl, hcn⟩, A1, c1, rfl, hcd, hdc, hdcell⟩ := hst.forms
        rw [List.length_map] at hcn hcd hdc
        have HRL := Lib.hid hrl
        have HST := Lib.hid hst
        have HWF := Lib.hid wf
        have HWK := Lib.hid hwf
        have HCN := Lib.hid (fun (W : World) (hb : Below wq.heap.size wq W) => ((hb.cell (p := ⟨w4.heap.size, 0, none⟩) (World.block_lt_of_cell? wq _ hcn)).trans hcn : W.cell? ⟨w4.heap.size, 0, none⟩ = some (.slice A0 ps.length c0)))
        have HCD := Lib.hid (fun (W : World) (hb : Below wq.heap.size wq W) => ((hb.cell (p := ⟨(w4.heap.size + 1), 0, none⟩) (World.block_lt_of_cell? wq _ hcd)).trans hcd : W.cell? ⟨(w4.heap.size + 1), 0, none⟩ = some (.slice A1 ps.length c1)))
        have HDC := Lib.hid (show ∀ (W : World) (hb : Below wq.heap.size wq W) (i : Nat) (y : Nm) (b : List UInt8), ps[i]? = some (y, b) → ∃ g, A1 = some ⟨g, 0, none⟩ ∧ W.cell? ⟨g, i, none⟩ = some (.string (txt b)) from fun W hb i y b hi => by
          have hil := (List.getElem?_eq_some_iff.1 hi).1
          obtain ⟨g, e, h⟩ := hdcell i (by simpa using hil)
          refine ⟨g, e, (hb.cell (p := ⟨g, i, none⟩) (World.block_lt_of_cell? wq _ h)).trans ?_⟩
          rw [h, List.getElem_map, (List.getElem?_eq_some_iff.1 hi).2])
        have HLI := Lib.hid (hst.list hrl wf)
        have HNL := Lib.hid hrl.len
        clear hrl hst wf hwf hcn hcd hdcell HP
        go_wp2_with (go_at_call 17; go_loud (refine HLI.out.mono ?_); rintro e w5 ⟨A5, c5, rfl, ⟨hc5, hl5⟩, h5⟩; have HB5 := Lib.hid h5; have HL5 := Lib.hid hl5; have y1 := HCN.out w5 h5; clear h5 hl5)
        go_loopw [16, 17] (fun uv iv wz => ∃ (j : Nat) (u : Int), j ≤ ps.length ∧ (0 ≤ u ∧ u ≤ 16777216 * (j : Int)) ∧ Hid (u = tot ((nowl s).take j)) ∧ uv = .int .i64 u ∧ iv = .int .i64 (j : Int) ∧ Below w5.heap.size w5 wz) (fun _ iv _ => ps.length - (intOf iv).toNat)
        case atStart => exact ⟨0, 0, Nat.zero_le _, ⟨by omega, by omega⟩, Lib.hid (by simp [tot]), rfl, rfl, Below.refl _ _⟩
        case round =>
          obtain ⟨j, u, hj, hu, HU, rfl, rfl, hb⟩ := hrel
          have HBZ := Lib.hid hb
          have HBQ := Lib.hid (HB5.out.trans (hb.mono HB5.out.size))
          by_cases hlj : j < ps.length
          · have hjn : j < (nowl s).length := by rw [HNL.out]; exact hlj
            obtain ⟨⟨y, bz⟩, hyb⟩ : ∃ z, (nowl s)[j] = z := ⟨_, rfl⟩
            obtain ⟨i, hi, hpi⟩ := HRL.out.idx j hjn
            rw [hyb] at hi hpi
            have HPI := Lib.hid hpi
            have hii := (List.getElem?_eq_some_iff.1 hpi).1
            have HIX := Lib.hid (idxI_some hi)
            have hdi : decide ((i : Int) < 0) = false := decide_eq_false (by omega)
            have hiL : (i : Int) < (ps.length : Int) := by omega
            have hjL : (j : Int) < (ps.length : Int) := by omega
            have hsbe : ((txt bz).toList == (txt bz).toList) = true := str_eq rfl
            have hbz : bz.length ≤ 16777216 := by
              obtain ⟨q, sf, _, hq⟩ := (HRL.out.mem y bz).1 (List.mem_of_getElem? hpi)
              exact (HWK.out.files q bz sf hq).1
            have HTT := Lib.hid (show u + (bz.length : Int) = tot ((nowl s).take (j + 1)) by rw [tot_take _ j hjn, hyb, HU.out])
            have HRD := Lib.hid ((HST.out.later HBQ.out).read HRL.out HWF.out j hjn y bz hyb)
            obtain ⟨g5, rfl, hl0⟩ := HL5.out j hjn
            have hg5 := World.block_lt_of_cell? w5 _ hl0
            rw [hyb] at hl0
            have hl1 : wr.cell? ⟨g5, j, none⟩ = some (.string (txt y)) := (hb.cell (p := ⟨g5, j, none⟩) hg5).trans hl0
            obtain ⟨gd, rfl, hd0⟩ := HDC.out wr HBQ.out i y bz hpi
            have hgd := World.block_lt_of_cell? wr _ hd0
            clear hpi hi hd0
            by_cases hj0 : j = 0
            · subst hj0
              go_wp2_with (first
                | (go_at_call 18; go_loud (refine HRD.out.mono ?_); rintro e w6 ⟨A6, c6, rfl, hbuf, h6⟩; have HB6 := Lib.hid (HBQ.out.trans (h6.mono HBQ.out.size)); have HBZ6 := Lib.hid (HBZ.out.trans (h6.mono HBZ.out.size)); have hcv := (fun k => string_of_buf (show Buf wr.heap.size A6 bz.length c6 bz (w6.drewN k) from hbuf)); have z1 : w6.cell? ⟨g5, 0, none⟩ = some (.string (txt y)) := (h6.cell (p := ⟨g5, _, none⟩) (Nat.lt_of_lt_of_le hg5 HBZ.out.size)).trans hl1; have z2 := HCD.out w6 HB6.out; skip; obtain ⟨gd', e9, z3⟩ := HDC.out w6 HB6.out i y bz HPI.out; injection e9 with e9; injection e9 with e9; subst e9; clear h6 hbuf)
                | (go_at_call 25; go_loud (refine ((HST.out.later HB6.out).find (by simp; omega) y).mono ?_); rw [HIX.out]; rintro e w7 ⟨rfl, rfl⟩))
              go_quiet (fail)
              go_wp2
              go_roundw
              case rel => exact ⟨_, _, by omega, ⟨by omega, by omega⟩, HTT, by go_num, by go_num, belowN HBZ6.out _⟩
              case measure => simp [intOf]; omega
            · obtain ⟨m, rfl⟩ : ∃ m, j = m + 1 := ⟨j - 1, by omega⟩
              have hmn : m < (nowl s).length := by omega
              obtain ⟨⟨yp, bp⟩, hybp⟩ : ∃ z, (nowl s)[m] = z := ⟨_, rfl⟩
              have hbf := HRL.out.before m hjn
              rw [hyb, hybp] at hbf
              have hle : Op.bytesLess (txt yp).toList (txt y).toList = true := by rw [bytesLess_eq, Lib.toList_data, Lib.toList_data]; exact decide_eq_true hbf
              have HLP := Lib.hid (show ∀ W, Below w5.heap.size w5 W → W.cell? ⟨g5, m, none⟩ = some (.string (txt yp)) from fun W hW => by
                obtain ⟨g, e, h⟩ := HL5.out m hmn
                injection e with e; injection e with e; subst e
                rw [hybp] at h
                exact (hW.cell (p := ⟨_, m, none⟩) hg5).trans h)
              have hdm : decide ((0 : Int) < ((m : Int) + 1)) = true := decide_eq_true (by omega)
              clear hbf hybp hyb
              go_wp2_with (first
                | (go_at_call 18; go_loud (refine HRD.out.mono ?_); rintro e w6 ⟨A6, c6, rfl, hbuf, h6⟩; have HB6 := Lib.hid (HBQ.out.trans (h6.mono HBQ.out.size)); have HBZ6 := Lib.hid (HBZ.out.trans (h6.mono HBZ.out.size)); have hcv := (fun k => string_of_buf (show Buf wr.heap.size A6 bz.length c6 bz (w6.drewN k) from hbuf)); have z1 : w6.cell? ⟨g5, m + 1, none⟩ = some (.string (txt y)) := (h6.cell (p := ⟨g5, _, none⟩) (Nat.lt_of_lt_of_le hg5 HBZ.out.size)).trans hl1; have z2 := HCD.out w6 HB6.out; have z4 := HLP.out w6 HBZ6.out; obtain ⟨gd', e9, z3⟩ := HDC.out w6 HB6.out i y bz HPI.out; injection e9 with e9; injection e9 with e9; subst e9; clear h6 hbuf)
                | (go_at_call 25; go_loud (refine ((HST.out.later HB6.out).find (by simp; omega) y).mono ?_); rw [HIX.out]; rintro e w7 ⟨rfl, rfl⟩))
              go_quiet (fail)
              go_wp2
              go_roundw
              case rel => exact ⟨_, _, by omega, ⟨by omega, by omega⟩, HTT, by go_num, by go_num, belowN HBZ6.out _⟩
              case measure => simp [intOf]; omega
          · obtain rfl : j = ps.length := by omega
            have hus : u = s.used := by rw [HU.out, ← HRL.out.tot_all, List.take_of_length_le (by rw [HNL.out]; exact Nat.le_refl _)]
            subst hus
            have HUS := Lib.hid (HST.out.later HBQ.out).used
            go_wp2_with (go_at_call 23; go_loud (refine HUS.out.mono ?_); rintro e w9 ⟨rfl, rfl⟩)
            go_ret
            exact ⟨rfl, HB2.out.trans ((HST.out.later HBQ.out).bel.mono HB2.out.size)⟩
    · have hd1 : decide ((k : Int) < (len : Int)) = false := decide_eq_false (by omega)
      clear HLI HG HR HL
      obtain ⟨s, ps, nv, dv, hst, hrl, hwf, hpl⟩ := HP.out
      have hps : ps.length ≤ 100 := by omega
      have wf := hwf.wf (by omega)
      obtain ⟨wq, rfl⟩ : ∃ x, x = wr := ⟨_, rfl⟩
      obtain ⟨⟨A0, c0, rfl, hcn⟩, A1, c1, rfl, hcd, hdc, hdcell⟩ := hst.forms
      rw [List.length_map] at hcn hcd hdc
      have HRL := Lib.hid hrl
      have HST := Lib.hid hst
      have HWF := Lib.hid wf
      have HWK := Lib.hid hwf
      have HCN := Lib.hid (fun (W : World) (hb : Below wq.heap.size wq W) => ((hb.cell (p := ⟨w4.heap.size, 0, none⟩) (World.block_lt_of_cell? wq _ hcn)).trans hcn : W.cell? ⟨w4.heap.size, 0, none⟩ = some (.slice A0 ps.length c0)))
      have HCD := Lib.hid (fun (W : World) (hb : Below wq.heap.size wq W) => ((hb.cell (p := ⟨(w4.heap.size + 1), 0, none⟩) (World.block_lt_of_cell? wq _ hcd)).trans hcd : W.cell? ⟨(w4.heap.size + 1), 0, none⟩ = some (.slice A1 ps.length c1)))
      have HDC := Lib.hid (show ∀ (W : World) (hb : Below wq.heap.size wq W) (i : Nat) (y : Nm) (b : List UInt8), ps[i]? = some (y, b) → ∃ g, A1 = some ⟨g, 0, none⟩ ∧ W.cell? ⟨g, i, none⟩ = some (.string (txt b)) from fun W hb i y b hi => by
        have hil := (List.getElem?_eq_some_iff.1 hi).1
        obtain ⟨g, e, h⟩ := hdcell i (by simpa using hil)
        refine ⟨g, e, (hb.cell (p := ⟨g, i, none⟩) (World.block_lt_of_cell? wq _ h)).trans ?_⟩
        rw [h, List.getElem_map, (List.getElem?_eq_some_iff.1 hi).2])
      have HLI := Lib.hid (hst.list hrl wf)
      have HNL := Lib.hid hrl.len
      clear hrl hst wf hwf hcn hcd hdcell HP
      go_wp2_with (go_at_call 17; go_loud (refine HLI.out.mono ?_); rintro e w5 ⟨A5, c5, rfl, ⟨hc5, hl5⟩, h5⟩; have HB5 := Lib.hid h5; have HL5 := Lib.hid hl5; have y1 := HCN.out w5 h5; clear h5 hl5)
      go_loopw [16, 17] (fun uv iv wz => ∃ (j : Nat) (u : Int), j ≤ ps.length ∧ (0 ≤ u ∧ u ≤ 16777216 * (j : Int)) ∧ Hid (u = tot ((nowl s).take j)) ∧ uv = .int .i64 u ∧ iv = .int .i64 (j : Int) ∧ Below w5.heap.size w5 wz) (fun _ iv _ => ps.length - (intOf iv).toNat)
      case atStart => exact ⟨0, 0, Nat.zero_le _, ⟨by omega, by omega⟩, Lib.hid (by simp [tot]), rfl, rfl, Below.refl _ _⟩
      case round =>
        obtain ⟨j, u, hj, hu, HU, rfl, rfl, hb⟩ := hrel
        have HBZ := Lib.hid hb
        have HBQ := Lib.hid (HB5.out.trans (hb.mono HB5.out.size))
        by_cases hlj : j < ps.length
        · have hjn : j < (nowl s).length := by rw [HNL.out]; exact hlj
          obtain ⟨⟨y, bz⟩, hyb⟩ : ∃ z, (nowl s)[j] = z := ⟨_, rfl⟩
          obtain ⟨i, hi, hpi⟩ := HRL.out.idx j hjn
          rw [hyb] at hi hpi
          have HPI := Lib.hid hpi
          have hii := (List.getElem?_eq_some_iff.1 hpi).1
          have HIX := Lib.hid (idxI_some hi)
          have hdi : decide ((i : Int) < 0) = false := decide_eq_false (by omega)
          have hiL : (i : Int) < (ps.length : Int) := by omega
          have hjL : (j : Int) < (ps.length : Int) := by omega
          have hsbe : ((txt bz).toList == (txt bz).toList) = true := str_eq rfl
          have hbz : bz.length ≤ 16777216 := by
            obtain ⟨q, sf, _, hq⟩ := (HRL.out.mem y bz).1 (List.mem_of_getElem? hpi)
            exact (HWK.out.files q bz sf hq).1
          have HTT := Lib.hid (show u + (bz.length : Int) = tot ((nowl s).take (j + 1)) by rw [tot_take _ j hjn, hyb, HU.out])
          have HRD := Lib.hid ((HST.out.later HBQ.out).read HRL.out HWF.out j hjn y bz hyb)
          obtain ⟨g5, rfl, hl0⟩ := HL5.out j hjn
          have hg5 := World.block_lt_of_cell? w5 _ hl0
          rw [hyb] at hl0
          have hl1 : wr.cell? ⟨g5, j, none⟩ = some (.string (txt y)) := (hb.cell (p := ⟨g5, j, none⟩) hg5).trans hl0
          obtain ⟨gd, rfl, hd0⟩ := HDC.out wr HBQ.out i y bz hpi
          have hgd := World.block_lt_of_cell? wr _ hd0
          clear hpi hi hd0
          by_cases hj0 : j = 0
          · subst hj0
            go_wp2_with (first
              | (go_at_call 18; go_loud (refine HRD.out.mono ?_); rintro e w6 ⟨A6, c6, rfl, hbuf, h6⟩; have HB6 := Lib.hid (HBQ.out.trans (h6.mono HBQ.out.size)); have HBZ6 := Lib.hid (HBZ.out.trans (h6.mono HBZ.out.size)); have hcv := (fun k => string_of_buf (show Buf wr.heap.size A6 bz.length c6 bz (w6.drewN k) from hbuf)); have z1 : w6.cell? ⟨g5, 0, none⟩ = some (.string (txt y)) := (h6.cell (p := ⟨g5, _, none⟩) (Nat.lt_of_lt_of_le hg5 HBZ.out.size)).trans hl1; have z2 := HCD.out w6 HB6.out; skip; obtain ⟨gd', e9, z3⟩ := HDC.out w6 HB6.out i y bz HPI.out; injection e9 with e9; injection e9 with e9; subst e9; clear h6 hbuf)
              | (go_at_call 25; go_loud (refine ((HST.out.later HB6.out).find (by simp; omega) y).mono ?_); rw [HIX.out]; rintro e w7 ⟨rfl, rfl⟩))
            go_quiet (fail)
            go_wp2
            go_roundw
            case rel => exact ⟨_, _, by omega, ⟨by omega, by omega⟩, HTT, by go_num, by go_num, belowN HBZ6.out _⟩
            case measure => simp [intOf]; omega
          · obtain ⟨m, rfl⟩ : ∃ m, j = m + 1 := ⟨j - 1, by omega⟩
            have hmn : m < (nowl s).length := by omega
            obtain ⟨⟨yp, bp⟩, hybp⟩ : ∃ z, (nowl s)[m] = z := ⟨_, rfl⟩
            have hbf := HRL.out.before m hjn
            rw [hyb, hybp] at hbf
            have hle : Op.bytesLess (txt yp).toList (txt y).toList = true := by rw [bytesLess_eq, Lib.toList_data, Lib.toList_data]; exact decide_eq_true hbf
            have HLP := Lib.hid (show ∀ W, Below w5.heap.size w5 W → W.cell? ⟨g5, m, none⟩ = some (.string (txt yp)) from fun W hW => by
              obtain ⟨g, e, h⟩ := HL5.out m hmn
              injection e with e; injection e with e; subst e
              rw [hybp] at h
              exact (hW.cell (p := ⟨_, m, none⟩) hg5).trans h)
            have hdm : decide ((0 : Int) < ((m : Int) + 1)) = true := decide_eq_true (by omega)
            clear hbf hybp hyb
            go_wp2_with (first
              | (go_at_call 18; go_loud (refine HRD.out.mono ?_); rintro e w6 ⟨A6, c6, rfl, hbuf, h6⟩; have HB6 := Lib.hid (HBQ.out.trans (h6.mono HBQ.out.size)); have HBZ6 := Lib.hid (HBZ.out.trans (h6.mono HBZ.out.size)); have hcv := (fun k => string_of_buf (show Buf wr.heap.size A6 bz.length c6 bz (w6.drewN k) from hbuf)); have z1 : w6.cell? ⟨g5, m + 1, none⟩ = some (.string (txt y)) := (h6.cell (p := ⟨g5, _, none⟩) (Nat.lt_of_lt_of_le hg5 HBZ.out.size)).trans hl1; have z2 := HCD.out w6 HB6.out; have z4 := HLP.out w6 HBZ6.out; obtain ⟨gd', e9, z3⟩ := HDC.out w6 HB6.out i y bz HPI.out; injection e9 with e9; injection e9 with e9; subst e9; clear h6 hbuf)
              | (go_at_call 25; go_loud (refine ((HST.out.later HB6.out).find (by simp; omega) y).mono ?_); rw [HIX.out]; rintro e w7 ⟨rfl, rfl⟩))
            go_quiet (fail)
            go_wp2
            go_roundw
            case rel => exact ⟨_, _, by omega, ⟨by omega, by omega⟩, HTT, by go_num, by go_num, belowN HBZ6.out _⟩
            case measure => simp [intOf]; omega
        · obtain rfl : j = ps.length := by omega
          have hus : u = s.used := by rw [HU.out, ← HRL.out.tot_all, List.take_of_length_le (by rw [HNL.out]; exact Nat.le_refl _)]
          subst hus
          have HUS := Lib.hid (HST.out.later HBQ.out).used
          go_wp2_with (go_at_call 23; go_loud (refine HUS.out.mono ?_); rintro e w9 ⟨rfl, rfl⟩)
          go_ret
          exact ⟨rfl, HB2.out.trans ((HST.out.later HBQ.out).bel.mono HB2.out.size)⟩
end Go.Proofs.Ytlmkhieojgpgcaa
