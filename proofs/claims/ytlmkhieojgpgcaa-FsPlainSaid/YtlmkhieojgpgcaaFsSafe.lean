/- The statement FsSafe: the walk. -/
import Derived.Test.YtlmkhieojgpgcaaFsSafeP
namespace Go.Proofs.Ytlmkhieojgpgcaa
open Go.ChangeShapes Go.WideShapes Go.ChangeAt Go.RowKit Go.ChangeMaps Go.MapKept
open Go.Lib (byteCells byteCells_length byteCells_append strCells)
set_option linter.unusedVariables false

def iCells (x : Int) : List Value := [.int .i64 x]
theorem picks_of {w : World} {B0 B : Nat} {A : Option Addr} {ps : List Int} (h : RowC iCells 1 w B0 A ps) (hB : B0 ≤ B) : PicksAt B w A ps := by
  intro j hj
  obtain ⟨b, off, e, hlt, h0⟩ := h j hj
  refine ⟨b, off, e, .inl (by omega), ?_⟩
  have := h0 0 _ rfl
  simpa using this
section
variable {Kp : Nat → Prop} {B f : Nat} {s : Fs} {w : World}
theorem Rep.below (h : Rep Kp B f s w) {w' : World} (hb : Below w.heap.size w w') : Rep Kp B f s w' := h.quiet (Ch.of_below hb)
/-- Append of '[]byte(t)'. -/
theorem append_laid (h : Rep Kp B f s w) (wf : Wf s) (hBw : B ≤ w.heap.size) (dir name : Nm) (t : ByteArray) (ht : t.size ≤ 1099494850000) (cap cap' : Nat) (fr : Nat × Nat) :
    Calls Try.prog 11 #[.pointer (some ⟨f, 0, none⟩), .string (txt dir), .string (txt name), .slice (some ⟨w.heap.size, 0, none⟩) t.size cap] (w.alloc (.cells (bytesRow t cap') 5 fr)).drew (Post Kp B f (appendR s dir name t.data.toList) w) := by
  have hb : Below w.heap.size w (w.alloc (.cells (bytesRow t cap') 5 fr)).drew := ((Below.refl _ w).alloc (Nat.le_refl _) _).drew
  refine (append_any (h.below hb) wf (Nat.le_trans hBw hb.size) dir name t.size cap ⟨w.heap.size, 0, none⟩ t.data.toList (size_eq t) (laid_bytes t w cap' _ fr) ht).mono fun e w' ⟨h1, h2, h3⟩ => ⟨h1, h2, (Turn.of hb hBw).trans h3⟩
end
/-- A call's answer, whatever it is, and what is left. -/
def PostE (Kp : Nat → Prop) (B f : Nat) (s : Fs) (w : World) (e : Ending) (w' : World) : Prop := ∃ E : Int, e = .returned (.int .i64 E) ∧ Rep Kp B f s w' ∧ Below B w w'
theorem Calls.weak {P : Program} {g : FuncId} {args : Array Value} {Kp : Nat → Prop} {B f : Nat} {r : Int × Fs} {w W : World} (h : Calls P g args W (Post Kp B f r w)) : Calls P g args W (PostE Kp B f r.2 w) := h.mono fun _ _ ⟨h1, h2, h3⟩ => ⟨r.1, h1, h2, h3.below⟩
theorem row_last {w : World} {B : Nat} {v : Value} {pre : List Nm} {last : Nm} {n : Nat} (hn : n = (pre ++ [last]).length) (h : w.ownsRow B 9 1 v n ((pre ++ [last]).map encStr)) :
    ∃ g c, v = .slice (some ⟨g, 0, none⟩) (pre.length + 1) c ∧ pre.length + 1 ≤ c ∧ w.cell? ⟨g, pre.length, none⟩ = some (.string (txt last)) := by
  have hl : n = pre.length + 1 := by rw [hn]; simp
  subst hl
  rcases h.2 with ⟨hx, hy⟩ | ⟨g, cap, cur, hx, _, _, h1, _⟩
  · omega
  · subst hx
    refine ⟨g, cap, rfl, h1, ?_⟩
    have := h.cells (g := g) rfl pre.length (.string (txt last)) (by rw [List.map_append, List.getElem?_append_right (by simp)]; simp; rfl)
    rw [add_at, Nat.zero_add] at this
    exact this
theorem belowN {B : Nat} {a w : World} (h : Below B a w) (n : Nat) : Below B a (w.drewN n) := ⟨h.os, h.tape, h.output, h.size, h.block⟩
theorem quiet_mine {P : Program} {f : FuncId} {args : Array Value} {w : World} {n : Nat} {v : Value}
    (h : Calls P f args (w.drewN n) fun e w' => e = .returned v ∧ w.drewN n = w') : Calls P f args (w.drewN n) fun e w'' => e = .returned v ∧ ∃ m, w'' = w.drewN m :=
  h.mono fun _ _ ⟨he, hm⟩ => ⟨he, n, hm.symm⟩
theorem safe_big (F M : ByteArray) (hF : F.size ≤ 140737488351232) (hM : M.size ≤ 140737488351232) (A : Option Addr) (n c : Nat) (hc : n ≤ c) (hcm : c ≤ maxLen) (q : Int) (hb : 4000 < F.size + M.size ∨ 100 < n) (w : World) :
    Calls Try.prog 3 #[.string F, .string M, .slice A n c, .int .u8 q] w fun e w' => e = .returned (.bool true) ∧ Below w.heap.size w w' := by
  unfold maxLen at hcm
  by_cases h1 : 4000 < F.size + M.size
  · have hd : decide ((4000 : Int) < (F.size : Int) + (M.size : Int)) = true := decide_eq_true (by omega)
    clear hb
    go_enter Try.func3, Try.ntmps3
    go_wp2_with (go_at_call 7; refine (alive_any _).mono ?_; rintro e w1 ⟨rfl, hb1⟩; have HB1 := Lib.hid hb1; clear hb1)
    go_ret
    exact ⟨rfl, HB1.out⟩
  · have h2 : 100 < n := by omega
    have hd : decide ((4000 : Int) < (F.size : Int) + (M.size : Int)) = false := decide_eq_false (by omega)
    clear hb
    go_enter Try.func3, Try.ntmps3
    go_wp2_with (go_at_call 7; refine (alive_any _).mono ?_; rintro e w1 ⟨rfl, hb1⟩; have HB1 := Lib.hid hb1; clear hb1)
    go_ret
    exact ⟨rfl, HB1.out⟩
set_option maxHeartbeats 4000000 in
theorem safe_small (F M : ByteArray) (A : Option Addr) (n c : Nat) (ps : List Int) (hn : n = ps.length) (hc : n ≤ c) (hcm : c ≤ maxLen) (hfit : ∀ x ∈ ps, in64 x) (q : Nat) (hq : q < 256) (hl : F.size + M.size ≤ 4000) (hn1 : n ≤ 100) (w : World) (hp : RowC iCells 1 w w.heap.size A ps) :
    Calls Try.prog 3 #[.string F, .string M, .slice A n c, .int .u8 (q : Int)] w fun e w' => e = .returned (.bool true) ∧ Below w.heap.size w w' := by
  have hcs := fun W => run_bytes_of_string (P := Try.prog) W 9 31 5 F Try.underlying9 Try.underlying31 Try.underlying5
  have hct := fun W => run_bytes_of_string (P := Try.prog) W 9 31 5 M Try.underlying9 Try.underlying31 Try.underlying5
  have hd : decide ((4000 : Int) < (F.size : Int) + (M.size : Int)) = false := decide_eq_false (by omega)
  have hlFM : F.data.toList.length + M.data.toList.length ≤ 4000 := by rw [← size_eq, ← size_eq]; exact hl
  have HOK := Lib.hid (fun x y (hy : (sa8 F.data.toList M.data.toList x (q % 4 : Nat)).file y = none) => safe_out F.data.toList M.data.toList hlFM (q % 4) (Nat.mod_lt _ (by decide)) x y hy ps)
  have HW5 := Lib.hid (wf_at5 F.data.toList)
  have HWS := Lib.hid (fun x y => wf_sa F.data.toList M.data.toList x y ((q % 4 : Nat) : Int) (by omega) ps)
  have HP := Lib.hid (show ∀ (W : World) (B : Nat), Below w.heap.size w W → w.heap.size ≤ B → PicksAt B W A ps from fun W B hb hB => picks_of (hp.below hb) hB)
  have HN := Lib.hid hn
  have HFIT := Lib.hid hfit
  clear hp hn hfit hlFM
  have hmod : (q : Int) % 4 = ((q % 4 : Nat) : Int) := by omega
  have HMOD := Lib.hid hmod
  clear hmod
  go_enter Try.func3, Try.ntmps3
  go_wp2_with (first
    | (go_at_call 7; refine (alive_any _).mono ?_; rintro e w1 ⟨rfl, hb1⟩; have HB1 := Lib.hid hb1; clear hb1)
    | (go_at_call 8; refine (new_any (Kp := fun _ => False) 1048576 rfl w1 (fun _ h => h.elim)).mono ?_; rintro e w2 ⟨f, rfl, h1, h2⟩; have HR2 := Lib.hid h1; have HB2 := Lib.hid h2; clear h1 h2)
    | (go_at_call 9; refine (Calls.weak (mkdir_any HR2.out ((WfK.new (room := 1048576) rfl).wf (by decide)) HB2.out.size nd)).mono ?_; rintro e w3 ⟨E3, rfl, h1, h2⟩; have HR3 := Lib.hid h1; have HB3 := Lib.hid (HB2.out.trans h2); clear h1 h2)
    | (go_at_call 10; refine (create_any HR3.out ((HW5.out 0).1.wf (by decide)) HB3.out.size nd na).mono ?_; unfold Post; rintro e w4 ⟨x, hx, rfl, h1, h2⟩; have HR4 := Lib.hid h1; have HB4 := Lib.hid (HB3.out.trans h2.below); clear h1 h2 hx HR3 HB3)
    | (go_at_call 11; refine (Calls.weak (append_laid HR4.out ((HW5.out x).2.1.wf (by decide)) HB4.out.size nd na F (by omega) _ _ _)).mono ?_; rintro e w5 ⟨E5, rfl, h1, h2⟩; have HR5 := Lib.hid h1; have HB5 := Lib.hid (HB4.out.trans h2); clear h1 h2 HR4 HB4)
    | (go_at_call 12; refine (Calls.weak (sync_any HR5.out ((HW5.out x).2.2.1.wf (by decide)) HB5.out.size nd na)).mono ?_; rintro e w6 ⟨E6, rfl, h1, h2⟩; have HR6 := Lib.hid h1; have HB6 := Lib.hid (HB5.out.trans h2); clear h1 h2 HR5 HB5)
    | (go_at_call 13; refine (Calls.weak (syncDir_any HR6.out ((HW5.out x).2.2.2.1.wf (by decide)) HB6.out.size nd)).mono ?_; rintro e w7 ⟨E7, rfl, h1, h2⟩; have HR7 := Lib.hid (show Rep (fun _ => False) w1.heap.size f (at5 F.data.toList x) w7 from h1); have HB7 := Lib.hid (HB6.out.trans h2); clear h1 h2 HR6 HB6))
  go_wp2_with (first
    | (go_at_call 14; rw [HMOD.out]; refine (Calls.weak (fuse_any HR7.out HB7.out.size _)).mono ?_; rintro e w8 ⟨E8, rfl, h1, h2⟩; have HR8 := Lib.hid (show Rep (fun _ => False) w1.heap.size f (sa6 F.data.toList x (q % 4 : Nat)) w8 from h1); have HB8 := Lib.hid (HB7.out.trans h2); clear h1 h2 HR7 HB7)
    | (go_at_call 11; refine (Calls.weak (append_laid HR8.out ((HWS.out x 0).1.wf (by decide)) HB8.out.size nd na M (by omega) _ _ _)).mono ?_; rintro e w9 ⟨E9, rfl, h1, h2⟩; have HR9 := Lib.hid (show Rep (fun _ => False) w1.heap.size f (sa7 F.data.toList M.data.toList x (q % 4 : Nat)) w9 from h1); have HB9 := Lib.hid (HB8.out.trans h2); clear h1 h2 HR8 HB8)
    | (go_at_call 15; refine (Calls.weak (rename_any HR9.out ((HWS.out x 0).2.1.wf (by decide)) HB9.out.size nd na nb)).mono ?_; rintro e w10 ⟨E10, rfl, h1, h2⟩; have HR10 := Lib.hid (show Rep (fun _ => False) w1.heap.size f (sa8 F.data.toList M.data.toList x (q % 4 : Nat)) w10 from h1); have HB10 := Lib.hid (HB9.out.trans h2); clear h1 h2 HR9 HB9)
    | (go_at_call 10; refine (create_any HR10.out ((HWS.out x 0).2.2.1.wf (by decide)) HB10.out.size nd na).mono ?_; unfold Post; rintro e w11 ⟨y, hy, rfl, h1, h2⟩; have HY := Lib.hid hy; have HR11 := Lib.hid (show Rep (fun _ => False) w1.heap.size f (sa9 F.data.toList M.data.toList x y (q % 4 : Nat)) w11 from h1); have HB11 := Lib.hid (HB10.out.trans h2.below); clear h1 h2 hy HR10 HB10)
    | (go_at_call 16; refine (crash_any HR11.out ((HWS.out x y).2.2.2.1.wf (by decide)) HB11.out.size A n c ps HN.out hc hcm (HP.out w11 w1.heap.size (HB1.out.trans (HB11.out.mono HB1.out.size)) HB1.out.size) HFIT.out).mono ?_; unfold Post; rintro e w12 ⟨rfl, h1, h2⟩; have HR12 := Lib.hid (show Rep (fun _ => False) w1.heap.size f (sa10 F.data.toList M.data.toList x y (q % 4 : Nat) ps) w12 from h1); have HB12 := Lib.hid (HB11.out.trans h2.below); clear h1 h2 HR11 HB11))
  obtain ⟨pre, last, k, SO⟩ := HOK.out x y HY.out
  obtain ⟨m, hm⟩ : ∃ m, pre.length = m := ⟨_, rfl⟩
  have hm1 : m ≤ 1 := hm ▸ SO.few
  have HWF := Lib.hid ((HWS.out x y).2.2.2.2.wf (by decide))
  have HON := Lib.hid SO.on
  have HLI := Lib.hid (list_any HR12.out HWF.out nd)
  rw [SO.live, SO.names] at HLI
  have HRD := Lib.hid (fun w' (hb : Below w12.heap.size w12 w') => read_any (HR12.out.below hb) HWF.out nd last)
  rw [SO.lf, SO.read] at HRD
  obtain ⟨b, hb⟩ : ∃ b, (F.data.toList ++ M.data.toList).take k = b := ⟨_, rfl⟩
  have hbl : b.length = k := by rw [← hb, List.length_take]; have := SO.high; omega
  have hbs : F.size ≤ b.length ∧ b.length ≤ F.size + M.size := by
    have h1 := SO.low
    have h2 := SO.high
    rw [List.length_append, ← size_eq, ← size_eq] at h2
    rw [← size_eq] at h1
    omega
  have hext : txt b = (F ++ M).extract 0 b.length := by
    refine str_ext ?_
    rw [txt_list, ByteArray.data_extract, Array.toList_extract]
    simp [List.extract, ← hb]
  have HROW := Lib.hid (fun (w' : World) (B : Nat) (v : Value) (h : w'.ownsRow B 9 1 v (pre ++ [last]).length ((pre ++ [last]).map encStr)) => row_last rfl h)
  rw [hb] at HRD
  rw [hm] at HROW
  clear SO HOK hm hb hbl HP HFIT HN
  go_wp2_with (first
    | (go_at_call 17; refine HLI.out.mono ?_; rintro e w13 ⟨v, rfl, h1, h2⟩; obtain ⟨g, c2, rfl, hmc, hcell⟩ := HROW.out _ _ _ h1; have HB13 := Lib.hid h2; clear h1 h2)
    | (go_at_call 18; refine (HRD.out w13 HB13.out).mono ?_; rintro e w14 ⟨A2, n2, c3, rfl, h1, h2⟩; obtain rfl := h1.1; have hst : ∀ nq, (convert 31 9 (.slice A2 b.length c3)).run Try.prog (w14.drewN nq) = .ok (.string (txt b)) (w14.drewN nq) := fun nq => string_of_buf (show Buf w13.heap.size A2 b.length c3 b (w14.drewN nq) from h1); have HB14 := Lib.hid (HB13.out.trans (h2.mono HB13.out.size)); clear h1 h2))
  have HON2 := Lib.hid (fun nq => on_any (HR12.out.below (belowN HB14.out nq)))
  rw [HON.out] at HON2
  obtain ⟨h2, h3⟩ := hbs
  have hsz : (F ++ M).size = F.size + M.size := ByteArray.size_append
  have d1 : decide ((F.size : Int) ≤ (b.length : Int)) = true := decide_eq_true (by omega)
  have d2 : decide ((b.length : Int) ≤ ((F ++ M).size : Int)) = true := decide_eq_true (by omega)
  have d3 : decide ((b.length : Int) ≤ (F.size : Int) + (M.size : Int)) = true := decide_eq_true (by omega)
  rw [hext] at hst
  go_quiet (first | (go_at_call 19; refine quiet_mine (HON2.out _)))
  go_wp2
  go_ret
  exact ⟨rfl, belowN (HB1.out.trans ((HB12.out.trans (HB14.out.mono HB12.out.size)).mono HB1.out.size)) _⟩
theorem safe_walk (F M : ByteArray) (hF : F.size ≤ 140737488351232) (hM : M.size ≤ 140737488351232) (A : Option Addr) (n c : Nat) (ps : List Int) (hn : n = ps.length) (hc : n ≤ c) (hcm : c ≤ maxLen) (hfit : ∀ x ∈ ps, in64 x) (q : Nat) (hq : q < 256) (w : World) (hp : RowC iCells 1 w w.heap.size A ps) :
    Calls Try.prog 3 #[.string F, .string M, .slice A n c, .int .u8 (q : Int)] w fun e w' => e = .returned (.bool true) ∧ Below w.heap.size w w' := by
  by_cases h : 4000 < F.size + M.size ∨ 100 < n
  · exact safe_big F M hF hM A n c hc hcm q h w
  · exact safe_small F M A n c ps hn hc hcm hfit q hq (by omega) (by omega) w hp
end Go.Proofs.Ytlmkhieojgpgcaa
