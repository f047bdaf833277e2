/- simfs: which directory, which file: directory, file, live, liveFile. -/
import Derived.Test.YtkcnmajjfljilaaGreatDoorFsRepN
namespace Go.Proofs.YtkcnmajjfljilaaGreatDoor
open Go.ChangeShapes Go.WideShapes Go.ChangeAt Go.RowKit Go.ChangeMaps Go.MapKept
set_option linter.unusedVariables false

theorem mget_top (L : Lay) (ns : List Nm) (n : Nm) : mget (topOf L ns) n = if n ∈ ns then some (L.blk n) else none := by
  induction ns with
  | nil => rfl
  | cons m r ih =>
    unfold topOf mget at *
    rw [List.map_cons, List.find?_cons]
    by_cases h : m = n
    · subst h; simp
    · have h2 : (m == n) = false := beq_eq_false_iff_ne.2 h
      have h3 : ¬ n = m := fun e => h e.symm
      simp only [h2, List.mem_cons, h3, false_or]
      exact ih
/-- Which error. -/
def dirE (s : Fs) (dir : Nm) (ns : List Nm) : Int := if (ns ++ [dir]).all right then (if dir ∈ s.names then 0 else 61) else 65
def dirP (L : Lay) (s : Fs) (dir : Nm) (ns : List Nm) : Option Nat := if (ns ++ [dir]).all right then (if dir ∈ s.names then some (L.blk dir) else none) else none
theorem right_len {n : Nm} (h : right n = true) : n.length ≤ 32 := by
  simp only [right, Bool.and_eq_true, decide_eq_true_eq] at h
  omega
theorem infoStr : (Tryz.prog.info? 9).map (fun i => (i.zero, i.size, i.bytes)) = some (some (.string ByteArray.empty), 1, 16) := by kernel_rfl
theorem one_str (l : List Nm) : ∀ u ∈ l.map encStr, u.oneCell' = true := by
  intro u hu
  rw [List.mem_map] at hu
  obtain ⟨a, _, rfl⟩ := hu
  rfl
set_option maxHeartbeats 4000000 in
theorem directory_any {Kp : Nat → Prop} {B f : Nat} {L : Lay} {s : Fs} {w0 : World} (h : RepL Kp B f L s w0) (w : World) (hb : Below w0.heap.size w0 w) (dir : Nm) (ns : List Nm) (v : Value) (hv : w.ownsRow w0.heap.size 9 1 v ns.length (ns.map encStr)) (hl : ns.length ≤ 3) :
    Calls Tryz.prog 128 #[.pointer (some ⟨f, 0, none⟩), .string (txt dir), v] w fun e w' => e = .returned (.tuple #[ptrOf (dirP L s dir ns), .int .i64 (dirE s dir ns)]) ∧ Below w0.heap.size w0 w' := by
  have hf : f < w0.heap.size := h.fs.lt
  have HM := Lib.hid (fun w1 (hb : Below w0.heap.size w0 w1) => (h.top.ch (Ch.below (Ch.refl (fun _ => False) w0) hb (fun k hk hk' => by omega)) (fun h => h) : MapAt w1 L.M (topOf L s.names)))
  have HF := Lib.hid (fun w1 (hb : Below w0.heap.size w0 w1) => ((h.fs.ch (Ch.below (Ch.refl (fun _ => False) w0) hb (fun k hk hk' => by omega)) (fun h => h)).cell 0 : w1.cell? ⟨f, 0, none⟩ = some (.map (some L.M))))
  have HB := Lib.hid hb
  obtain ⟨A, c, rfl⟩ := own_slice hv
  obtain ⟨i0, hi, hz0, hz1, hz2⟩ := info_parts infoStr
  have HI := Lib.hid hi
  have HZ0 := Lib.hid hz0
  have HZ1 := Lib.hid hz1
  have HZ2 := Lib.hid hz2
  have HMG := Lib.hid (mget_top L s.names dir)
  have HRL := Lib.hid (@right_len dir)
  obtain ⟨E, hE⟩ : ∃ E, dirE s dir ns = E := ⟨_, rfl⟩
  obtain ⟨D, hD⟩ : ∃ D, dirP L s dir ns = D := ⟨_, rfl⟩
  have HBAD := Lib.hid (show (ns ++ [dir]).all right = false → E = 65 ∧ D = none from fun h => by rw [← hE, ← hD]; unfold dirE dirP; rw [h]; exact ⟨rfl, rfl⟩)
  have HGOOD := Lib.hid (show (ns ++ [dir]).all right = true → (dir ∈ s.names → E = 0 ∧ D = some (L.blk dir)) ∧ (dir ∉ s.names → E = 61 ∧ D = none) from fun h => by
    rw [← hE, ← hD]; unfold dirE dirP; rw [h]
    exact ⟨fun h2 => by simp [h2], fun h2 => by simp [h2]⟩)
  rw [hE, hD]
  obtain ⟨all, hall⟩ : ∃ all, ns ++ [dir] = all := ⟨_, rfl⟩
  have HALL := Lib.hid hall
  have hlen : all.length = ns.length + 1 := by rw [← hall]; simp
  obtain ⟨n, hn⟩ : ∃ n, ns.length = n := ⟨_, rfl⟩
  rw [hn] at hlen hl hv
  have HV := Lib.hid hv
  have HNL := Lib.hid hn
  have HAL := Lib.hid hlen
  have HDR := Lib.hid (show all.all right = true → right dir = true from fun h => by
    rw [← hall, List.all_append, Bool.and_eq_true] at h
    simpa using h.2)
  rw [hn]
  clear h hb hv hi hz0 hz1 hz2 hE hD hall hn hlen
  go_enter Tryz.func128, Tryz.ntmps128
  go_wp2_with (at_builtin; go_loud (refine wpList_append_own_at _ rfl _ _ 92 rfl w0.heap.size 9 i0 _ 1 16 Tryz.underlying92 HI.out HZ0.out HZ1.out HZ2.out rfl (by decide) _ n (ns.map encStr) rfl (HV.out.alloc _) ⟨w.heap.size, 0, none⟩ 1 1 [.string (txt dir)] rfl rfl (new_cells w _ _) (by simp [Value.oneCell']) (by unfold maxLen; omega) (by omega) (by have := HB.out.size; simp; omega) ?_); intro v2 w2 hown hg _ _; obtain ⟨A2, c2, rfl⟩ := own_slice hown; have HO := Lib.hid hown; have HG := Lib.hid hg; clear hown hg)
  obtain ⟨g2, hA2⟩ : ∃ g2, A2 = some ⟨g2, 0, none⟩ := by
    rcases HO.out.2 with ⟨hx, hy⟩ | ⟨g, cap, cur, hx, _⟩
    · omega
    · injection hx with hx _ _; exact ⟨g, hx⟩
  subst hA2
  have HB2 := Lib.hid (show Below w0.heap.size w0 w2 from (HB.out.alloc HB.out.size _).grown HG.out (by have := HB.out.size; simp; omega) (fun k e => (HV.out.lt k e).1))
  have HC := Lib.hid (show ∀ j (hj : j < all.length), w2.cell? ⟨g2, j, none⟩ = some (.string (txt all[j])) from fun j hj => by
    have h1 := HO.out.cells (g := g2) rfl j (.string (txt all[j])) (by
      have e : ns.map encStr ++ [.string (txt dir)] = all.map encStr := by rw [← HALL.out, List.map_append]; rfl
      rw [e, List.getElem?_map, List.getElem?_eq_getElem hj]; rfl)
    rw [add_at, Nat.zero_add] at h1
    exact h1)
  have hcap : n + 1 ≤ c2 := by
    rcases HO.out.2 with ⟨hx, hy⟩ | ⟨g, cap, cur, hx, _, _, h1, _⟩
    · omega
    · injection hx with _ _ hx; omega
  clear HG HI HZ0 HZ1 HZ2 HV
  have HBADK := Lib.hid (show ∀ k (h : k < all.length), right all[k] = false → E = 65 ∧ D = none from fun k h hk => HBAD.out (by rw [HALL.out, List.all_eq_false]; exact ⟨all[k], List.getElem_mem h, by simp [hk]⟩))
  have hLsome : ∀ W, (zeroValue 123).run Tryz.prog W = .ok (.pointer none) W := zero_dir
  have HZ := Lib.hid hLsome
  clear hLsome
  go_loop [19] (fun i => ∃ k : Nat, k ≤ n + 1 ∧ i = .int .i64 (k : Int) ∧ Hid ((all.take k).all right = true)) (fun i => n + 1 - (intOf i).toNat)
  case atStart => exact ⟨0, Nat.zero_le _, rfl, Lib.hid rfl⟩
  case round =>
    obtain ⟨k, hk, rfl, HA⟩ := hrel
    by_cases hlt : k < n + 1
    · have hkl : k < all.length := by rw [HAL.out]; exact hlt
      have hcell := HC.out k hkl
      have HT := Lib.hid (take_snoc all k hkl)
      have HBK := Lib.hid (HBADK.out k hkl)
      have HNM := Lib.hid (isName_any (txt all[k]) w2)
      obtain ⟨r, hr⟩ : ∃ r, right all[k] = r := ⟨_, rfl⟩
      have HR := Lib.hid hr
      clear hr
      cases r with
      | true =>
        have HA2 := Lib.hid (show (all.take (k + 1)).all right = true by rw [HT.out, List.all_append, HA.out]; simp [HR.out])
        go_wp2_with (go_at_call 171; refine HNM.out.mono ?_; rw [txt_list, HR.out]; rintro e w3 ⟨rfl, rfl⟩)
        go_round
        case rel => exact ⟨k + 1, by omega, by go_num, HA2⟩
        case measure => simp [intOf]; omega
      | false =>
        obtain ⟨rfl, rfl⟩ := HBK.out HR.out
        go_wp2_with (go_at_call 171; refine HNM.out.mono ?_; rw [txt_list, HR.out]; rintro e w3 ⟨rfl, rfl⟩)
        go_ret2
        exact ⟨rfl, HB2.out⟩
    · obtain rfl : k = n + 1 := by omega
      have hall : all.all right = true := by have := HA.out; rwa [List.take_of_length_le (by rw [HAL.out]; omega)] at this
      have HG := Lib.hid (HGOOD.out (by rw [HALL.out]; exact hall))
      have hr := HRL.out (HDR.out hall)
      have hc0 : w2.cell? ⟨f, 0, none⟩ = some (.map (some L.M)) := HF.out w2 HB2.out
      have hlook := (HM.out w2 HB2.out).look (t := 65) (e' := 0) Tryz.underlying65 HZ.out dir (by unfold maxLen; omega)
      rw [HMG.out] at hlook
      clear hall
      by_cases hin : dir ∈ s.names
      · rw [if_pos hin] at hlook
        obtain ⟨rfl, rfl⟩ := HG.out.1 hin
        simp only [Option.isSome] at hlook
        go_wp2
        go_ret2
        exact ⟨rfl, HB2.out⟩
      · rw [if_neg hin] at hlook
        obtain ⟨rfl, rfl⟩ := HG.out.2 hin
        simp only [Option.isSome] at hlook
        go_wp2
        go_ret2
        exact ⟨rfl, HB2.out⟩
theorem directory_nil (x v : Value) (w : World) : Calls Tryz.prog 128 #[.pointer none, x, v] w fun e w' => e = .returned (.tuple #[.pointer none, .int .i64 1]) ∧ w = w' := by
  go_enter Tryz.func128, Tryz.ntmps128
  go_wp2
  go_ret2
  exact ⟨rfl, rfl⟩
theorem dir_cases (L : Lay) (s : Fs) (dir : Nm) (ns : List Nm) : (dirE s dir ns = 0 ∧ dirP L s dir ns = some (L.blk dir) ∧ (ns ++ [dir]).all right = true ∧ dir ∈ s.names) ∨ (dirE s dir ns ≠ 0 ∧ dirP L s dir ns = none) := by
  unfold dirE dirP
  by_cases h : (ns ++ [dir]).all right = true
  · by_cases h2 : dir ∈ s.names
    · exact .inl ⟨by rw [if_pos h, if_pos h2], by rw [if_pos h, if_pos h2], h, h2⟩
    · exact .inr ⟨by rw [if_pos h, if_neg h2]; decide, by rw [if_pos h, if_neg h2]⟩
  · exact .inr ⟨by rw [if_neg h]; decide, by rw [if_neg h]⟩
theorem dirE_range (s : Fs) (dir : Nm) (ns : List Nm) : dirE s dir ns = 0 ∨ dirE s dir ns = 61 ∨ dirE s dir ns = 65 := by
  unfold dirE
  split
  · split
    · exact .inl rfl
    · exact .inr (.inl rfl)
  · exact .inr (.inr rfl)
def liveE (s : Fs) (dir : Nm) (ns : List Nm) : Int := if s.on then dirE s dir ns else 60
def liveP (L : Lay) (s : Fs) (dir : Nm) (ns : List Nm) : Option Nat := if s.on then dirP L s dir ns else none
theorem live_cases (L : Lay) (s : Fs) (dir : Nm) (ns : List Nm) : (liveE s dir ns = 0 ∧ liveP L s dir ns = some (L.blk dir) ∧ s.on = true ∧ (ns ++ [dir]).all right = true ∧ dir ∈ s.names) ∨ (liveE s dir ns ≠ 0 ∧ liveP L s dir ns = none) := by
  unfold liveE liveP
  cases s.on with
  | false => exact .inr ⟨by simp, rfl⟩
  | true =>
    rcases dir_cases L s dir ns with ⟨a, b, c, d⟩ | ⟨a, b⟩
    · exact .inl ⟨a, b, rfl, c, d⟩
    · exact .inr ⟨a, b⟩
theorem fs_later {Kp : Nat → Prop} {B f : Nat} {L : Lay} {s : Fs} {w0 : World} (h : RepL Kp B f L s w0) {w1 : World} (hb : Below w0.heap.size w0 w1) : FsAt w1 f L.M s.room s.used s.steps s.fuse s.on :=
  h.fs.ch (Ch.below (Ch.refl (fun _ => False) w0) hb (fun k hk hk' => by omega)) (fun h => h)
theorem Ch.of_below {w0 w1 : World} (hb : Below w0.heap.size w0 w1) : Ch (fun _ => False) w0 w1 := Ch.below (Ch.refl (fun _ => False) w0) hb (fun k hk hk' => by omega)
theorem live_any {Kp : Nat → Prop} {B f : Nat} {L : Lay} {s : Fs} {w0 : World} (h : RepL Kp B f L s w0) (w : World) (hb : Below w0.heap.size w0 w) (dir : Nm) (ns : List Nm) (v : Value) (hv : w.ownsRow w0.heap.size 9 1 v ns.length (ns.map encStr)) (hl : ns.length ≤ 3) :
    Calls Tryz.prog 83 #[.pointer (some ⟨f, 0, none⟩), .string (txt dir), v] w fun e w' => e = .returned (.tuple #[ptrOf (liveP L s dir ns), .int .i64 (liveE s dir ns)]) ∧ Below w0.heap.size w0 w' := by
  have HC := Lib.hid (directory_any h w hb dir ns v hv hl)
  have c5 : w.cell? ⟨f, 5, none⟩ = some (.bool s.on) := (fs_later h hb).cell 5
  have HB := Lib.hid hb
  clear h hb hv
  unfold liveE liveP
  obtain ⟨E, hE⟩ : ∃ E, dirE s dir ns = E := ⟨_, rfl⟩
  obtain ⟨D, hD⟩ : ∃ D, dirP L s dir ns = D := ⟨_, rfl⟩
  rw [hE, hD] at HC
  rw [hE, hD]
  clear hE hD
  obtain ⟨o, ho⟩ : ∃ o, s.on = o := ⟨_, rfl⟩
  rw [ho] at c5 ⊢
  clear ho
  cases o with
  | true =>
    go_enter Tryz.func83, Tryz.ntmps83
    go_wp2_with (go_at_call 128; refine HC.out.mono ?_; rintro e w1 ⟨rfl, h1⟩; have H1 := Lib.hid h1; clear h1)
    go_ret2
    exact ⟨rfl, H1.out⟩
  | false =>
    go_enter Tryz.func83, Tryz.ntmps83
    go_wp2
    go_ret2
    exact ⟨rfl, HB.out⟩
theorem live_nil (x v : Value) (w : World) : Calls Tryz.prog 83 #[.pointer none, x, v] w fun e w' => e = .returned (.tuple #[.pointer none, .int .i64 1]) ∧ w = w' := by
  have HC := Lib.hid (directory_nil x v w)
  go_enter Tryz.func83, Tryz.ntmps83
  go_wp2_with (go_at_call 128; refine HC.out.mono ?_; rintro e w1 ⟨rfl, rfl⟩)
  go_ret2
  exact ⟨rfl, rfl⟩

/-! ### which file -/
def fileE (s : Fs) (dir name : Nm) (os : List Nm) : Int := if dirE s dir (os ++ [name]) = 0 then (if (mget (s.dir dir).now name).isSome then 0 else 62) else dirE s dir (os ++ [name])
def fileP (s : Fs) (dir name : Nm) (os : List Nm) : Option Nat := if dirE s dir (os ++ [name]) = 0 then mget (s.dir dir).now name else none
def fileD (L : Lay) (s : Fs) (dir name : Nm) (os : List Nm) : Option Nat := if fileE s dir name os = 0 then some (L.blk dir) else none
set_option maxHeartbeats 4000000 in
theorem file_any {Kp : Nat → Prop} {B f : Nat} {L : Lay} {s : Fs} {w0 : World} (h : RepL Kp B f L s w0) (w : World) (hb : Below w0.heap.size w0 w) (dir name : Nm) (os : List Nm) (v : Value) (hv : w.ownsRow w0.heap.size 9 1 v os.length (os.map encStr)) (hl : os.length ≤ 2) :
    Calls Tryz.prog 103 #[.pointer (some ⟨f, 0, none⟩), .string (txt dir), .string (txt name), v] w fun e w' => e = .returned (.tuple #[ptrOf (fileD L s dir name os), ptrOf (fileP s dir name os), .int .i64 (fileE s dir name os)]) ∧ Below w0.heap.size w0 w' := by
  have HB := Lib.hid hb
  obtain ⟨A, c, rfl⟩ := own_slice hv
  have hsz := hb.size
  have HH := Lib.hid h
  obtain ⟨i0, hi, hz0, hz1, hz2⟩ := info_parts infoStr
  have HI := Lib.hid hi
  have HZ0 := Lib.hid hz0
  have HZ1 := Lib.hid hz1
  have HZ2 := Lib.hid hz2
  clear hi hz0 hz1 hz2
  obtain ⟨n, hn⟩ : ∃ n, os.length = n := ⟨_, rfl⟩
  rw [hn] at hv hl
  have HV := Lib.hid hv
  have HN := Lib.hid hn
  rw [hn]
  clear hv hn hb h
  have HPOST := Lib.hid (fun (w2 : World) (A2 : Option Addr) (c2 : Nat) (hb2 : Below w0.heap.size w0 w2) (ho : w2.ownsRow w0.heap.size 9 1 (.slice A2 (n + 1) c2) (n + 1) (os.map encStr ++ [.string (txt name)])) =>
    directory_any HH.out w2 hb2 dir (os ++ [name]) (.slice A2 (n + 1) c2) (by rw [List.length_append, HN.out, List.map_append]; exact ho) (by rw [List.length_append, HN.out]; simp; omega))
  rcases dir_cases L s dir (os ++ [name]) with ⟨hE, hD, hall, hin⟩ | ⟨hE, hD⟩
  · have hnm : right name = true := by
      rw [List.all_append, Bool.and_eq_true, List.all_append, Bool.and_eq_true] at hall
      simpa using hall.1.2
    have hnl := right_len hnm
    have HD1 := Lib.hid (fun w1 (hb : Below w0.heap.size w0 w1) => ((HH.out.dir dir hin).ch (Ch.of_below hb) (fun h => h)).cell 1)
    have HD2 := Lib.hid (fun w1 (hb : Below w0.heap.size w0 w1) => ((HH.out.now dir hin).ch (Ch.of_below hb) (fun h => h)).look (t := 143) (e' := 0) Tryz.underlying143 zero_file name (by unfold maxLen; omega))
    unfold fileD
    unfold fileE fileP
    rw [hE, hD] at HPOST
    rw [if_pos hE, if_pos hE]
    clear hE hD hall hin
    simp only [ptrOf_some] at HPOST
    obtain ⟨P, hP⟩ : ∃ P, mget (s.dir dir).now name = P := ⟨_, rfl⟩
    rw [hP] at HD2 ⊢
    clear hP
    cases P with
    | none =>
      show Calls _ _ _ _ fun e w' => e = .returned (.tuple #[.pointer none, .pointer none, .int .i64 62]) ∧ Below w0.heap.size w0 w'
      simp only [ptrOf_none, Option.isSome] at HD2
      go_enter Tryz.func103, Tryz.ntmps103
      go_wp2_with (first
        | (at_builtin; go_loud (refine wpList_append_own_at _ rfl _ _ 92 rfl w0.heap.size 9 i0 _ 1 16 Tryz.underlying92 HI.out HZ0.out HZ1.out HZ2.out rfl (by decide) _ n (os.map encStr) rfl (HV.out.alloc _) ⟨w.heap.size, 0, none⟩ 1 1 [.string (txt name)] rfl rfl (new_cells w _ _) (by simp [Value.oneCell']) (by unfold maxLen; omega) (by omega) (by simp; omega) ?_); intro v2 w2 hown hg _ _; obtain ⟨A2, c2, rfl⟩ := own_slice hown; have HO := Lib.hid hown; have HB2 := Lib.hid (show Below w0.heap.size w0 w2 from (HB.out.alloc HB.out.size _).grown hg (by have := HB.out.size; simp; omega) (fun k e => (HV.out.lt k e).1)); clear hown hg)
        | (go_at_call 128; refine (HPOST.out w2 A2 c2 HB2.out HO.out).mono ?_; rintro e w3 ⟨rfl, h1⟩; have H1 := Lib.hid h1; have d1 : w3.cell? ⟨L.blk dir, 1, none⟩ = some (.map (some (L.nw dir))) := HD1.out w3 h1; have hlook := HD2.out w3 h1; clear h1))
      go_ret3
      exact ⟨rfl, H1.out⟩
    | some x =>
      show Calls _ _ _ _ fun e w' => e = .returned (.tuple #[.pointer (some ⟨L.blk dir, 0, none⟩), .pointer (some ⟨x, 0, none⟩), .int .i64 0]) ∧ Below w0.heap.size w0 w'
      simp only [ptrOf_some, Option.isSome] at HD2
      go_enter Tryz.func103, Tryz.ntmps103
      go_wp2_with (first
        | (at_builtin; go_loud (refine wpList_append_own_at _ rfl _ _ 92 rfl w0.heap.size 9 i0 _ 1 16 Tryz.underlying92 HI.out HZ0.out HZ1.out HZ2.out rfl (by decide) _ n (os.map encStr) rfl (HV.out.alloc _) ⟨w.heap.size, 0, none⟩ 1 1 [.string (txt name)] rfl rfl (new_cells w _ _) (by simp [Value.oneCell']) (by unfold maxLen; omega) (by omega) (by simp; omega) ?_); intro v2 w2 hown hg _ _; obtain ⟨A2, c2, rfl⟩ := own_slice hown; have HO := Lib.hid hown; have HB2 := Lib.hid (show Below w0.heap.size w0 w2 from (HB.out.alloc HB.out.size _).grown hg (by have := HB.out.size; simp; omega) (fun k e => (HV.out.lt k e).1)); clear hown hg)
        | (go_at_call 128; refine (HPOST.out w2 A2 c2 HB2.out HO.out).mono ?_; rintro e w3 ⟨rfl, h1⟩; have H1 := Lib.hid h1; have d1 : w3.cell? ⟨L.blk dir, 1, none⟩ = some (.map (some (L.nw dir))) := HD1.out w3 h1; have hlook := HD2.out w3 h1; clear h1))
      go_ret3
      exact ⟨rfl, H1.out⟩
  · unfold fileD
    unfold fileE fileP
    rw [if_neg hE, if_neg hE, if_neg hE]
    obtain ⟨E, hEE⟩ : ∃ E, dirE s dir (os ++ [name]) = E := ⟨_, rfl⟩
    rw [hEE] at hE HPOST ⊢
    rw [hD] at HPOST
    clear hD hEE
    simp only [ptrOf_none] at HPOST ⊢
    have hb : (E != 0) = true := by rw [bne_iff_ne]; exact hE
    go_enter Tryz.func103, Tryz.ntmps103
    go_wp2_with (first
      | (at_builtin; go_loud (refine wpList_append_own_at _ rfl _ _ 92 rfl w0.heap.size 9 i0 _ 1 16 Tryz.underlying92 HI.out HZ0.out HZ1.out HZ2.out rfl (by decide) _ n (os.map encStr) rfl (HV.out.alloc _) ⟨w.heap.size, 0, none⟩ 1 1 [.string (txt name)] rfl rfl (new_cells w _ _) (by simp [Value.oneCell']) (by unfold maxLen; omega) (by omega) (by simp; omega) ?_); intro v2 w2 hown hg _ _; obtain ⟨A2, c2, rfl⟩ := own_slice hown; have HO := Lib.hid hown; have HB2 := Lib.hid (show Below w0.heap.size w0 w2 from (HB.out.alloc HB.out.size _).grown hg (by have := HB.out.size; simp; omega) (fun k e => (HV.out.lt k e).1)); clear hown hg)
      | (go_at_call 128; refine (HPOST.out w2 A2 c2 HB2.out HO.out).mono ?_; rintro e w3 ⟨rfl, h1⟩; have H1 := Lib.hid h1; clear h1))
    go_ret3
    exact ⟨rfl, H1.out⟩
theorem own_none (w : World) (B : Nat) : w.ownsRow B 9 1 (.slice none 0 0) 0 [] := World.ownsRow_nil w B _ 1
theorem own_one (w : World) (B : Nat) (hB : B ≤ w.heap.size) (n : Nm) : (w.alloc (.cells #[.string (txt n)] 9)).ownsRow B 9 1 (.slice (some ⟨w.heap.size, 0, none⟩) 1 1) 1 [encStr n] := by
  refine ⟨rfl, .inr ⟨w.heap.size, 1, #[.string (txt n)], rfl, hB, ?_, Nat.le_refl _, by decide, rfl, rfl⟩⟩
  exact Cells.new w _ _
theorem file_nil (x y : Value) (A : Option Addr) (n c : Nat) (B : Nat) (w : World) (hB : B ≤ w.heap.size) (hn : n ≤ 3) (xs : List Value) (hv : w.ownsRow B 9 1 (.slice A n c) n xs) (z : ByteArray) (hz : y = .string z) : Calls Tryz.prog 103 #[.pointer none, x, y, .slice A n c] w fun e w' => e = .returned (.tuple #[.pointer none, .pointer none, .int .i64 1]) ∧ Below B w w' := by
  subst hz
  obtain ⟨i0, hi, hz0, hz1, hz2⟩ := info_parts infoStr
  have HI := Lib.hid hi
  have HZ0 := Lib.hid hz0
  have HZ1 := Lib.hid hz1
  have HZ2 := Lib.hid hz2
  have HV := Lib.hid hv
  have HC := Lib.hid (fun v w => directory_nil x v w)
  clear hi hz0 hz1 hz2 hv
  go_enter Tryz.func103, Tryz.ntmps103
  go_wp2_with (first
    | (at_builtin; go_loud (refine wpList_append_own_at _ rfl _ _ 92 rfl B 9 i0 _ 1 16 Tryz.underlying92 HI.out HZ0.out HZ1.out HZ2.out rfl (by decide) _ n xs rfl (HV.out.alloc _) ⟨w.heap.size, 0, none⟩ 1 1 [.string z] rfl rfl (new_cells w _ _) (by simp [Value.oneCell']) (by unfold maxLen; omega) (by omega) (by simp; omega) ?_); intro v2 w2 hown hg _ _; have HB2 := Lib.hid (show Below B w w2 from ((Below.refl B w).alloc hB _).grown hg (by simp; omega) (fun k e => (HV.out.lt k e).1)); clear hown hg)
    | (go_at_call 128; refine (HC.out v2 w2).mono ?_; rintro e w3 ⟨rfl, rfl⟩))
  go_ret3
  exact ⟨rfl, HB2.out⟩
def lfE (s : Fs) (dir name : Nm) (os : List Nm) : Int := if s.on then fileE s dir name os else 60
def lfP (s : Fs) (dir name : Nm) (os : List Nm) : Option Nat := if s.on then fileP s dir name os else none
def lfD (L : Lay) (s : Fs) (dir name : Nm) (os : List Nm) : Option Nat := if s.on then fileD L s dir name os else none
theorem lf_cases (L : Lay) (s : Fs) (dir name : Nm) (os : List Nm) : (lfE s dir name os = 0 ∧ lfD L s dir name os = some (L.blk dir) ∧ (∃ x, lfP s dir name os = some x ∧ mget (s.dir dir).now name = some x) ∧ s.on = true ∧ (os ++ [name] ++ [dir]).all right = true ∧ dir ∈ s.names) ∨ lfE s dir name os ≠ 0 := by
  unfold lfE lfD lfP fileD
  cases hon : s.on with
  | false => exact .inr (by simp)
  | true =>
    simp only [if_true]
    rcases dir_cases L s dir (os ++ [name]) with ⟨a, b, c, d⟩ | ⟨a, b⟩
    · unfold fileE fileP
      rw [if_pos a, if_pos a]
      cases hg : mget (s.dir dir).now name with
      | none => exact .inr (by simp)
      | some x => exact .inl ⟨rfl, rfl, ⟨x, rfl, rfl⟩, trivial, c, d⟩
    · refine .inr ?_
      unfold fileE
      rw [if_neg a]; exact a
theorem liveFile_any {Kp : Nat → Prop} {B f : Nat} {L : Lay} {s : Fs} {w0 : World} (h : RepL Kp B f L s w0) (w : World) (hb : Below w0.heap.size w0 w) (dir name : Nm) (os : List Nm) (v : Value) (hv : w.ownsRow w0.heap.size 9 1 v os.length (os.map encStr)) (hl : os.length ≤ 2) :
    Calls Tryz.prog 69 #[.pointer (some ⟨f, 0, none⟩), .string (txt dir), .string (txt name), v] w fun e w' => e = .returned (.tuple #[ptrOf (lfD L s dir name os), ptrOf (lfP s dir name os), .int .i64 (lfE s dir name os)]) ∧ Below w0.heap.size w0 w' := by
  have HC := Lib.hid (file_any h w hb dir name os v hv hl)
  have c5 : w.cell? ⟨f, 5, none⟩ = some (.bool s.on) := (fs_later h hb).cell 5
  have HB := Lib.hid hb
  clear h hb hv
  unfold lfE lfP lfD
  obtain ⟨E, hE⟩ : ∃ E, fileE s dir name os = E := ⟨_, rfl⟩
  obtain ⟨D, hD⟩ : ∃ D, fileP s dir name os = D := ⟨_, rfl⟩
  obtain ⟨F, hF⟩ : ∃ F, fileD L s dir name os = F := ⟨_, rfl⟩
  rw [hE, hD, hF] at HC
  rw [hE, hD, hF]
  clear hE hD hF
  obtain ⟨o, ho⟩ : ∃ o, s.on = o := ⟨_, rfl⟩
  rw [ho] at c5 ⊢
  clear ho
  cases o with
  | true =>
    go_enter Tryz.func69, Tryz.ntmps69
    go_wp2_with (go_at_call 103; refine HC.out.mono ?_; rintro e w1 ⟨rfl, h1⟩; have H1 := Lib.hid h1; clear h1)
    go_ret3
    exact ⟨rfl, H1.out⟩
  | false =>
    go_enter Tryz.func69, Tryz.ntmps69
    go_wp2
    go_ret3
    exact ⟨rfl, HB.out⟩
theorem liveFile_nil (x : Value) (A : Option Addr) (n c : Nat) (B : Nat) (w : World) (hB : B ≤ w.heap.size) (hn : n ≤ 3) (xs : List Value) (hv : w.ownsRow B 9 1 (.slice A n c) n xs) (z : ByteArray) : Calls Tryz.prog 69 #[.pointer none, x, .string z, .slice A n c] w fun e w' => e = .returned (.tuple #[.pointer none, .pointer none, .int .i64 1]) ∧ Below B w w' := by
  have HC := Lib.hid (file_nil x (.string z) A n c B w hB hn xs hv z rfl)
  clear hv
  go_enter Tryz.func69, Tryz.ntmps69
  go_wp2_with (go_at_call 103; refine HC.out.mono ?_; rintro e w1 ⟨rfl, h1⟩; have H1 := Lib.hid h1; clear h1)
  go_ret3
  exact ⟨rfl, H1.out⟩
end Go.Proofs.YtkcnmajjfljilaaGreatDoor
