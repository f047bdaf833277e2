/- simfs: settle. -/
import Derived.Test.YtlmkhieojgpgcaaFsDir
namespace Go.Proofs.Ytlmkhieojgpgcaa
open Go.ChangeShapes Go.WideShapes Go.ChangeAt Go.RowKit Go.ChangeMaps Go.MapKept
set_option linter.unusedVariables false

/-- All of them, one behind the other. -/
def replay (os : List FOp) (l : List (Nm × Nat)) : List (Nm × Nat) := os.foldl (fun l o => o.on l) l
theorem replay_snoc (os : List FOp) (o : FOp) (l : List (Nm × Nat)) : replay (os ++ [o]) l = o.on (replay os l) := by simp [replay]
theorem replay_length (os : List FOp) (l : List (Nm × Nat)) : (replay os l).length ≤ l.length + os.length := by
  induction os generalizing l with
  | nil => simp [replay]
  | cons o os ih =>
    have := ih (o.on l)
    have := o.on_length l
    simp only [replay, List.foldl_cons, List.length_cons] at *
    omega
theorem take_snoc {α : Type} (l : List α) (k : Nat) (h : k < l.length) : l.take (k + 1) = l.take k ++ [l[k]] := by
  rw [List.take_add_one, List.getElem?_eq_getElem h]; rfl

/-- What settling leaves. -/
structure Settled (d bb nb nb' : Nat) (bl nl : List (Nm × Nat)) (w w' : World) : Prop where
  dir : DirAt w' d bb nb' (.slice none 0 0)
  base : MapAt w' bb bl
  now : MapAt w' nb' nl
  ch : Ch (fun k => k = d ∨ k = bb) w w'
  at_ : nb' = nb ∨ w.heap.size ≤ nb'
theorem settle_nil (d bb nb : Nat) (bl nl : List (Nm × Nat)) (w : World) (hd : DirAt w d bb nb (.slice none 0 0)) (hb : MapAt w bb bl) (hn : MapAt w nb nl) :
    Calls Try.prog 40 #[.pointer (some ⟨d, 0, none⟩), .int .i64 0] w fun e w' => e = .returned (.tuple #[]) ∧ Settled d bb nb nb bl nl w w' := by
  have c2 : w.cell? ⟨d, 2, none⟩ = some (.slice none 0 0) := hd.cell 2
  have f2 := hd.frozen 2
  have HD := Lib.hid hd
  have HB := Lib.hid hb
  have HN := Lib.hid hn
  clear hd hb hn
  go_enter Try.func40, Try.ntmps40
  go_wp2
  go_loopw [13] (fun iv wr => iv = .int .i64 0 ∧ wr = w) (fun _ _ => 0)
  case atStart => exact ⟨rfl, rfl⟩
  case round =>
    obtain ⟨rfl, rfl⟩ := hrel
    go_wp2
    go_end0
    have h : Ch (· = d) wr (wr.setCell ⟨d, 2, none⟩ (.slice none 0 0)) := (Ch.refl (· = d) wr).set (p := ⟨d, 2, none⟩) (.inl rfl) _
    exact ⟨rfl, HD.out.set 2 _, HB.out.ch h (HB.out.ne HD.out), HN.out.ch h (HN.out.ne HD.out), h.mono fun k _ e => .inl e, .inl rfl⟩

/-- In the loop: so many are done. -/
structure Going (bb : Nat) (l : List (Nm × Nat)) (w wr : World) : Prop where
  map : MapAt wr bb l
  ch : Ch (· = bb) w wr
set_option maxHeartbeats 4000000 in
theorem settle_row {Kp : Nat → Prop} (d bb nb g cap k : Nat) (os : List FOp) (bl nl : List (Nm × Nat)) (w : World) (hd : DirAt w d bb nb (.slice (some ⟨g, 0, none⟩) os.length cap)) (hb : MapAt w bb bl) (hn : MapAt w nb nl) (hne : bb ≠ nb)
    (hrow : ∀ j (h : j < os.length), ∃ fv, w.cell? ⟨g, j, none⟩ = some fv ∧ OpAt Kp w fv os[j]) (hgb : g ≠ bb) (hcap : os.length ≤ cap) (hk : k ≤ os.length) (hlen : bl.length + os.length ≤ 1000000) (hcm : cap ≤ maxLen) (hlast : k = os.length → replay os bl = nl) :
    Calls Try.prog 40 #[.pointer (some ⟨d, 0, none⟩), .int .i64 (k : Int)] w fun e w' => e = .returned (.tuple #[]) ∧ ∃ nb', Settled d bb nb nb' (replay (os.take k) bl) (replay (os.take k) bl) w w' := by
  have c2 : w.cell? ⟨d, 2, none⟩ = some (.slice (some ⟨g, 0, none⟩) os.length cap) := hd.cell 2
  have hbd : bb ≠ d := hb.ne hd
  have hkc : k ≤ cap := by omega
  have HDC := Lib.hid (fun wr (h : Ch (· = bb) w wr) => (hd.ch h (fun e => hbd e.symm) : DirAt wr d bb nb (.slice (some ⟨g, 0, none⟩) os.length cap)))
  have HN := Lib.hid (fun wr (h : Ch (· = bb) w wr) => hn.ch h (fun e => hne e.symm))
  have HR := Lib.hid (fun wr (h : Ch (· = bb) w wr) j (hj : j < os.length) => (by
    obtain ⟨fv, h1, h2⟩ := hrow j hj
    have hlt : g < w.heap.size := World.block_lt_of_cell? w _ h1
    exact ⟨fv, (World.cell?_of_block (w := w) (a := ⟨g, j, none⟩) (h.block g hlt hgb)).trans h1, h2.ch h (Free.map hb _).k (Free.map hb _).k⟩ : ∃ fv, wr.cell? ⟨g, j, none⟩ = some fv ∧ OpAt Kp wr fv os[j]))
  have HB := Lib.hid (show Going bb (replay (os.take 0) bl) w w from ⟨hb, Ch.refl _ _⟩)
  have HL := Lib.hid hlast
  clear hrow hd hb hn hlast
  obtain ⟨n, hn⟩ : ∃ n, os.length = n := ⟨_, rfl⟩
  have HOL := Lib.hid hn
  rw [hn] at c2 hk hcap hlen
  clear hn
  go_enter Try.func40, Try.ntmps40
  go_wp2
  go_loopw [13] (fun iv wr => ∃ j : Nat, j ≤ k ∧ iv = .int .i64 (j : Int) ∧ Hid (Going bb (replay (os.take j) bl) w wr)) (fun iv _ => k - (intOf iv).toNat)
  case atStart => exact ⟨0, Nat.zero_le _, rfl, HB⟩
  case round =>
    obtain ⟨j, hj, rfl, HG⟩ := hrel
    have d0 : wr.cell? ⟨d, 0, none⟩ = some (.map (some bb)) := (HDC.out wr HG.out.ch).cell 0
    have d2 : wr.cell? ⟨d, 2, none⟩ = some (.slice (some ⟨g, 0, none⟩) n cap) := by have := (HDC.out wr HG.out.ch).cell 2; rw [← HOL.out]; exact this
    by_cases hlt : j < k
    · have hjl : j < os.length := by rw [HOL.out]; omega
      obtain ⟨fv, hcell, hop⟩ := HR.out wr HG.out.ch j hjl
      obtain ⟨q, lb, rfl, hen, hrun⟩ := op_run hop
      have HC := Lib.hid (hrun wr hop bb _ HG.out.map (by have := replay_length (os.take j) bl; rw [List.length_take] at this; omega))
      have HS := Lib.hid (show replay (os.take (j + 1)) bl = os[j].on (replay (os.take j) bl) by rw [take_snoc os j hjl, replay_snoc])
      clear hrun hop
      go_wp2_with (go_at_fn q; refine HC.out.mono ?_; rintro e w1 ⟨rfl, h1, h2⟩; have H1 := Lib.hid (show Going bb (replay (os.take (j + 1)) bl) w w1 from ⟨by rw [HS.out]; exact h1, HG.out.ch.turned h2 (.inl rfl)⟩); clear h1 h2)
      go_roundw
      case rel => exact ⟨j + 1, by omega, by go_num, H1⟩
      case measure => simp [intOf]; omega
    · obtain rfl : j = k := by omega
      have f2 := (HDC.out wr HG.out.ch).frozen 2
      by_cases hkn : j = n
      · have hin : decide ((j : Int) < (n : Int)) = false := decide_eq_false (by omega)
        go_wp2
        go_end0
        have h : Ch (· = d) wr (wr.setCell ⟨d, 2, none⟩ (.slice none 0 0)) := (Ch.refl (· = d) wr).set (p := ⟨d, 2, none⟩) (.inl rfl) _
        refine ⟨rfl, nb, (HDC.out wr HG.out.ch).set 2 _, HG.out.map.ch h hbd, ?_, (HG.out.ch.mono fun k _ e => .inr e).then_ h fun i _ e => .inl e, .inl rfl⟩
        rw [show os.take j = os by rw [List.take_of_length_le (by rw [HOL.out]; omega)], HL.out (by rw [HOL.out]; exact hkn)]
        exact (HN.out wr HG.out.ch).ch h ((HN.out wr HG.out.ch).ne (HDC.out wr HG.out.ch))
      · have hin : decide ((j : Int) < (n : Int)) = true := decide_eq_true (by omega)
        have f1 := (HDC.out wr HG.out.ch).frozen 1
        have d1 : wr.cell? ⟨d, 1, none⟩ = some (.map (some nb)) := (HDC.out wr HG.out.ch).cell 1
        have HCL := Lib.hid (AnyW.maps_Clone_owns Try.cloneMap 9 ptrElem bb _ _ wr HG.out.map)
        go_wp2_with (go_at_call 55; refine HCL.out.mono ?_; rintro e w1 ⟨rfl, h1, h2, h3⟩; have H1 := Lib.hid h1; have H2 := Lib.hid h2; have H3 := Lib.hid h3; have H4 := Lib.hid ((HDC.out wr HG.out.ch).ch (Ch.below (Ch.refl (fun _ => False) wr) h3 (fun k hk hk' => by omega)) (fun h => h)); have g1 := H4.out.frozen 1; have g2 := H4.out.frozen 2; have x1 : w1.cell? ⟨d, 1, none⟩ = some (.map (some nb)) := H4.out.cell 1; have x2 : w1.cell? ⟨d, 2, none⟩ = some (.slice (some ⟨g, 0, none⟩) os.length cap) := H4.out.cell 2; clear h1 h2 h3 d0 d1 d2 f1 f2)
        go_end0
        have hs : Ch (· = d) w1 ((w1.setCell ⟨d, 1, none⟩ (.map (some wr.heap.size))).setCell ⟨d, 2, none⟩ (.slice none 0 0)) := ((Ch.refl (· = d) w1).set (p := ⟨d, 1, none⟩) (.inl rfl) _).set (p := ⟨d, 2, none⟩) (.inl rfl) _
        have b1 := own_tight H1.out
        have b2 := own_tight H2.out
        refine ⟨rfl, wr.heap.size, (H4.out.set 1 _).set 2 _, b2.ch hs (b2.ne H4.out), b1.ch hs (b1.ne H4.out), ?_, .inr HG.out.ch.size⟩
        exact ((HG.out.ch.mono fun k _ e => .inr e).below H3.out fun k h1 h2 => by have := HG.out.ch.size; omega).then_ hs fun i _ e => .inl e
end Go.Proofs.Ytlmkhieojgpgcaa
