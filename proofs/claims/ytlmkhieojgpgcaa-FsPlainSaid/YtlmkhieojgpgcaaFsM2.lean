/- simfs: Append. -/
import Derived.Test.YtlmkhieojgpgcaaFsM1
namespace Go.Proofs.Ytlmkhieojgpgcaa
open Go.ChangeShapes Go.WideShapes Go.ChangeAt Go.RowKit Go.ChangeMaps Go.MapKept
set_option linter.unusedVariables false

theorem fs_noByte {w : World} {f M : Nat} {room used steps fuse : Int} {on : Bool} (h : FsAt w f M room used steps fuse on) (off : Nat) (c : Int) : w.cell? ⟨f, off, none⟩ ≠ some (.int .u8 c) := by
  rw [h.cell off]
  unfold fsCells
  rcases off with _ | _ | _ | _ | _ | _ | off <;> simp
theorem BytesAt.chF {w w' : World} {B f M : Nat} {A : Option Addr} {l : List UInt8} {room used steps fuse : Int} {on : Bool} (h : BytesAt w B A l) (hB : B ≤ w.heap.size) (hf : FsAt w f M room used steps fuse on) (k : Ch (· = f) w w') : BytesAt w' B A l := by
  intro j hj
  obtain ⟨b, off, rfl, hb, hc⟩ := h j hj
  refine ⟨b, off, rfl, hb, ?_⟩
  have hne : b ≠ f := by
    rintro rfl
    exact fs_noByte hf _ _ hc
  exact (World.cell?_of_block (w := w) (a := ⟨b, off + j, none⟩) (k.block b (by omega) hne)).trans hc
def appendR (s : Fs) (dir name : Nm) (news : List UInt8) : Int × Fs :=
  if lfE s dir name [] ≠ 0 then (lfE s dir name [], s)
  else if 16777216 < (bytesOf s (fileOf s dir name)).length + news.length then (67, s)
  else if s.room < s.used + news.length then (64, s)
  else if s.fuse = 0 then (60, outed s)
  else (0, { stepped s with used := s.used + news.length, file := upd s.file (fileOf s dir name) (some (bytesOf s (fileOf s dir name) ++ news, safeOf s (fileOf s dir name))) })
theorem RepL.lowRow {Kp : Nat → Prop} {B f : Nat} {L : Lay} {s : Fs} {w : World} (h : RepL Kp B f L s w) {x : Nat} {b : List UInt8} {sf : Nat} (hx : s.file x = some (b, sf)) : ∀ k, (k = f ∨ k = x ∨ rowOf L x b.length k) → B ≤ k ∧ ¬ Kp k := by
  rintro k (rfl | rfl | e)
  · exact h.lowF
  · exact h.lowX hx
  · obtain ⟨d, _, hd⟩ := (h.file x b sf hx).blk e; exact ⟨hd, (h.kx x b sf hx).2 k e⟩
set_option maxHeartbeats 1000000 in
theorem append_any {Kp : Nat → Prop} {B f : Nat} {s : Fs} {w : World} (h : Rep Kp B f s w) (wf : Wf s) (hBw : B ≤ w.heap.size) (dir name : Nm) (n c : Nat) (a : Addr) (news : List UInt8) (hn : n = news.length) (hsrc : BytesAt w w.heap.size (some a) news) (hnm : n ≤ 1099494850000) :
    Calls Try.prog 11 #[.pointer (some ⟨f, 0, none⟩), .string (txt dir), .string (txt name), .slice (some a) n c] w (Post Kp B f (appendR s dir name news) w) := by
  obtain ⟨L, h⟩ := h
  obtain ⟨w0, hw0⟩ : ∃ w0, (w.alloc (.cells #[.pointer (some ⟨f, 0, none⟩)] 24)).alloc (.cells #[.slice (some a) n c] 31) = w0 := ⟨_, rfl⟩
  have hsz : w0.heap.size = w.heap.size + 2 := by rw [← hw0]; simp
  have HW00 : Below w.heap.size w w0 := by rw [← hw0]; exact ((Below.refl _ w).alloc (Nat.le_refl _) _).alloc (by simp) _
  have HF0 := Lib.hid (show Cells w0 w.heap.size #[adr f] 24 by rw [← hw0]; exact (Cells.new w _ _).alloc _)
  have HG0 := Lib.hid (show Cells w0 (w.heap.size + 1) #[.slice (some a) n c] 31 by
    have := Cells.new (w.alloc (.cells #[.pointer (some ⟨f, 0, none⟩)] 24)) #[.slice (some a) n c] 31
    rw [← hw0]; simpa using this)
  have hsrc0 : BytesAt w0 w.heap.size (some a) news := hsrc.below HW00
  have h0 : RepL Kp B f L s w0 := h.quiet (Ch.of_below HW00)
  have HL := Lib.hid (liveFile_any h0 w0 (Below.refl _ w0) dir name [] (.slice none 0 0) (own_none w0 _) (by simp))
  have HQ := Lib.hid (fun w1 (hb : Below w0.heap.size w0 w1) => h0.quiet (Ch.of_below hb))
  have HBB := Lib.hid (fun w1 (hb : Below w0.heap.size w0 w1) => (Turn.of (HW00.trans (hb.mono (show w.heap.size ≤ w0.heap.size by omega))) hBw : Turn Kp B w w1))
  have HFB := Lib.hid (fun w1 (hb : Below w0.heap.size w0 w1) => HF0.out.below hb (by omega))
  have HGB := Lib.hid (fun w1 (hb : Below w0.heap.size w0 w1) => HG0.out.below hb (by omega))
  have HSB := Lib.hid (fun w1 (hb : Below w0.heap.size w0 w1) => hsrc0.below (hb.mono (show w.heap.size ≤ w0.heap.size by omega)))
  have hfw := h.fs.lt
  rcases lf_cases L s dir name [] with ⟨hE, hD, ⟨x, hP, hx⟩, hon, hall, hin⟩ | hE
  · rw [hE, hP, hD, ptrOf_some, ptrOf_some] at HL
    have HIF := Lib.hid (show ¬ (lfE s dir name [] ≠ 0) from fun h => h hE)
    obtain ⟨b, sf, hfx⟩ := wf.now hin (mget_some hx)
    have HFO := Lib.hid (show fileOf s dir name = x by unfold fileOf; rw [hx]; rfl)
    have HBO := Lib.hid (show bytesOf s x = b by unfold bytesOf; rw [hfx]; rfl)
    have HSO := Lib.hid (show safeOf s x = sf by unfold safeOf; rw [hfx]; rfl)
    have hbl := (wf.files x b sf hfx).1
    have hu := wf.used
    have hroom := wf.room
    have HS := Lib.hid (fun (w1 : World) (hb : Below w0.heap.size w0 w1) (W : World) (hW : Below w0.heap.size w0 W) (k1 : Cells W w1.heap.size #[adr x] 60) => by
      have hs1 := hb.size
      have r := HQ.out W hW
      have hBW : B ≤ W.heap.size := by have := hW.size; omega
      exact (step_any r wf.steps wf.fuse 37 #[adr w1.heap.size, adr (w.heap.size + 1), adr w.heap.size] (enters_of Try.func37 (by kernel_rfl) rfl)
        (R := fun w3 => (∃ L', RepL Kp B f L' { stepped s with used := s.used + n, file := upd s.file x (some (b ++ news, sf)) } w3) ∧ Ch (fun i => i = f ∨ i = x ∨ rowOf L x b.length i) W w3)
        (fun w3 hr hch => (append1_any hr w1.heap.size (w.heap.size + 1) w.heap.size x w.heap.size n c a news (k1.ch hch (by omega)) ((HGB.out W hW).ch hch (by omega)) ((HFB.out W hW).ch hch (by omega)) ((HSB.out W hW).chF (by have := hW.size; omega) r.fs hch) hn b sf hfx (Nat.le_trans hBW hch.size) (by omega) hu).mono
          fun e w4 ⟨he, L', a, b⟩ => ⟨he, ⟨L', a⟩, (hch.mono fun k _ e => .inl e).then_ b fun i _ e => e⟩)))
    have HLO := Lib.hid (h.lowRow hfx)
    have hxw := (h.file x b sf hfx).cells.lt
    have HN := Lib.hid hn
    have HX0 := Lib.hid (fun (w1 : World) (hb : Below w0.heap.size w0 w1) => ((HQ.out w1 hb).file x b sf hfx).cells)
    have HFS := Lib.hid (fun (w1 : World) (hb : Below w0.heap.size w0 w1) => (HQ.out w1 hb).fs)
    obtain ⟨m, hm⟩ : ∃ m, b.length = m := ⟨_, rfl⟩
    have HX2 : Hid (∀ (w1 : World) (hb : Below w0.heap.size w0 w1) (o : Obj), (w1.alloc o).cell? ⟨x, 0, none⟩ = some (.slice (L.fa x) m (L.fc x))) := Lib.hid (fun w1 hb o => by rw [← hm]; exact (HX0.out _ (Below.al hb (Nat.le_refl _) o)).cell 0)
    have HM := Lib.hid hm
    rw [hm] at hbl
    obtain ⟨hu0, hu1⟩ := hu
    obtain ⟨hr0, hr1⟩ := hroom
    have HSZ := Lib.hid hsz
    subst hw0
    clear h h0 hE hP hD hall hsrc hsrc0 HW00 hm hn hsz wf
    have hni : 0 ≤ (n : Int) := by omega
    have hmi : (m : Int) ≤ 16777216 := by omega
    have hmi0 : 0 ≤ (m : Int) := by omega
    by_cases g1 : 16777216 < m + n
    · have hg : decide ((16777216 : Int) - (m : Int) < (n : Int)) = true := decide_eq_true (by omega)
      go_enter Try.func11, Try.ntmps11
      go_wp2_with (go_at_call 36; go_loud (refine HL.out.mono ?_); rintro e w1 ⟨rfl, hb⟩; have HB := Lib.hid hb; have y1 : ∀ o, (w1.alloc o).cell? ⟨w.heap.size + 1, 0, none⟩ = some (.slice (some a) n c) := fun o => (HGB.out _ (Below.al hb (Nat.le_refl _) o)).cell 0; have y2 : ∀ o, (w1.alloc o).cell? ⟨x, 0, none⟩ = some (.slice (L.fa x) m (L.fc x)) := HX2.out w1 hb; clear hb)
      go_region
      go_wp2
      go_ret
      have hb0 := (Below.al HB.out (Nat.le_refl _) (.cells #[.pointer (some ⟨x, 0, none⟩)] 60)).drew
      have hq := HQ.out _ hb0
      unfold Post appendR
      rw [if_neg HIF.out, HFO.out, HBO.out, HM.out, ← HN.out, if_pos g1]
      exact ⟨rfl, ⟨_, hq⟩, HBB.out _ hb0⟩
    · have hg : decide ((16777216 : Int) - (m : Int) < (n : Int)) = false := decide_eq_false (by omega)
      by_cases g2 : s.room < s.used + n
      · have hh : decide (s.room - s.used < (n : Int)) = true := decide_eq_true (by omega)
        go_enter Try.func11, Try.ntmps11
        go_wp2_with (go_at_call 36; refine HL.out.mono ?_; rintro e w1 ⟨rfl, hb⟩; have HB := Lib.hid hb; have y1 : ∀ o, (w1.alloc o).cell? ⟨w.heap.size + 1, 0, none⟩ = some (.slice (some a) n c) := fun o => (HGB.out _ (Below.al hb (Nat.le_refl _) o)).cell 0; have y2 : ∀ o, (w1.alloc o).cell? ⟨x, 0, none⟩ = some (.slice (L.fa x) m (L.fc x)) := HX2.out w1 hb; have y3 : ∀ o, (w1.alloc o).cell? ⟨w.heap.size, 0, none⟩ = some (.pointer (some ⟨f, 0, none⟩)) := fun o => (HFB.out _ (Below.al hb (Nat.le_refl _) o)).cell 0; have y4 : ∀ o, (w1.alloc o).cell? ⟨f, 1, none⟩ = some (.int .i64 s.room) := fun o => (HFS.out _ (Below.al hb (Nat.le_refl _) o)).cell 1; have y5 : ∀ o, (w1.alloc o).cell? ⟨f, 2, none⟩ = some (.int .i64 s.used) := fun o => (HFS.out _ (Below.al hb (Nat.le_refl _) o)).cell 2; clear hb)
        go_region
        go_wp2
        go_region
        go_wp2
        go_ret
        have hb0 := (Below.al HB.out (Nat.le_refl _) (.cells #[.pointer (some ⟨x, 0, none⟩)] 60)).drew.drew
        have hq := HQ.out _ hb0
        unfold Post appendR
        rw [if_neg HIF.out, HFO.out, HBO.out, HM.out, ← HN.out, if_neg g1, if_pos g2]
        exact ⟨rfl, ⟨_, hq⟩, HBB.out _ hb0⟩
      · have hh : decide (s.room - s.used < (n : Int)) = false := decide_eq_false (by omega)
        go_enter Try.func11, Try.ntmps11
        go_wp2_with (go_at_call 36; refine HL.out.mono ?_; rintro e w1 ⟨rfl, hb⟩; have HB := Lib.hid hb; have y1 : ∀ o, (w1.alloc o).cell? ⟨w.heap.size + 1, 0, none⟩ = some (.slice (some a) n c) := fun o => (HGB.out _ (Below.al hb (Nat.le_refl _) o)).cell 0; have y2 : ∀ o, (w1.alloc o).cell? ⟨x, 0, none⟩ = some (.slice (L.fa x) m (L.fc x)) := HX2.out w1 hb; have y3 : ∀ o, (w1.alloc o).cell? ⟨w.heap.size, 0, none⟩ = some (.pointer (some ⟨f, 0, none⟩)) := fun o => (HFB.out _ (Below.al hb (Nat.le_refl _) o)).cell 0; have y4 : ∀ o, (w1.alloc o).cell? ⟨f, 1, none⟩ = some (.int .i64 s.room) := fun o => (HFS.out _ (Below.al hb (Nat.le_refl _) o)).cell 1; have y5 : ∀ o, (w1.alloc o).cell? ⟨f, 2, none⟩ = some (.int .i64 s.used) := fun o => (HFS.out _ (Below.al hb (Nat.le_refl _) o)).cell 2; clear hb)
        go_region
        go_wp2
        go_region
        have HW := Lib.hid (Below.al HB.out (Nat.le_refl _) (.cells #[.pointer (some ⟨x, 0, none⟩)] 60)).drew.drew
        go_wp2_with (go_at_call 30; go_loud (refine (HS.out w1 HB.out _ HW.out (Cells.new w1 _ _)).mono ?_); rintro e w2 ⟨E, rfl, hd⟩; have HD := Lib.hid hd; clear hd)
        go_ret
        have hb0 := HW.out
        have hB2 : B ≤ (w1.alloc (.cells #[.pointer (some ⟨x, 0, none⟩)] 60)).drew.drew.heap.size := by
          have := (HBB.out _ hb0).size; omega
        unfold Post appendR
        rw [if_neg HIF.out, HFO.out, HBO.out, HM.out, HSO.out, ← HN.out, if_neg g1, if_neg (show ¬ s.room < s.used + (n : Int) by omega)]
        rcases HD.out with ⟨h0, rfl, hr, hch⟩ | ⟨h0, rfl, ⟨L', hr⟩, hch⟩
        · rw [if_pos h0]
          exact ⟨rfl, ⟨_, hr⟩, (HBB.out _ hb0).trans (hch.toTurn (fun k _ e => HLO.out k (.inl e)) hB2)⟩
        · rw [if_neg h0]
          exact ⟨rfl, ⟨_, hr⟩, (HBB.out _ hb0).trans (hch.toTurn (fun k _ e => HLO.out k e) hB2)⟩
  · have HIF := Lib.hid hE
    obtain ⟨E, hEE⟩ : ∃ E, lfE s dir name [] = E := ⟨_, rfl⟩
    obtain ⟨D, hDD⟩ : ∃ D, ptrOf (lfD L s dir name []) = D := ⟨_, rfl⟩
    obtain ⟨X, hXX⟩ : ∃ X, lfP s dir name [] = X := ⟨_, rfl⟩
    have HEE := Lib.hid hEE
    rw [hEE] at hE
    rw [hEE, hDD, hXX] at HL
    have hne : (E != 0) = true := by rw [bne_iff_ne]; exact hE
    obtain ⟨px, hpx⟩ : ∃ px, ptrOf X = .pointer px := by cases X <;> exact ⟨_, rfl⟩
    rw [hpx] at HL
    subst hw0
    clear h h0 hEE hDD hXX hpx hsrc hsrc0 HW00 hsz hn
    go_enter Try.func11, Try.ntmps11
    go_wp2_with (go_at_call 36; refine HL.out.mono ?_; rintro e w1 ⟨rfl, hb⟩; have HB := Lib.hid hb; clear hb)
    go_ret
    have hb0 := Below.al HB.out (Nat.le_refl _) (.cells #[.pointer px] 60)
    have hq := HQ.out _ hb0
    unfold Post appendR
    rw [if_pos HIF.out, HEE.out]
    exact ⟨rfl, ⟨_, hq⟩, HBB.out _ hb0⟩
end Go.Proofs.Ytlmkhieojgpgcaa
