/- The walks of the plain text that writes: ints, texts, values. -/
import Derived.Test.YtkpajmgbiepmbaaCodTell
namespace Go.Proofs.Ytkpajmgbiepmbaa
open Go.ChangeShapes Go.WideShapes Go.ChangeAt Go.RowKit
open Go.Lib (byteCells byteCells_length byteCells_append strCells)
set_option linter.unusedVariables false

theorem pnum_walk (n : Nat) (hn : n < 18446744073709551616) (w : World) :
    Calls Try.prog 13 #[.int .u64 (n : Int)] w fun e w' => e = .returned (.string (txt (numL n))) ∧ Below w.heap.size w w' :=
  rnum_walk 10 n (by have e : (128 : Nat) ^ 10 = 1180591620717411303424 := by decide
                     omega) hn w
theorem pint_walk (n : Int) (h : in64 n) (w : World) :
    Calls Try.prog 49 #[.int .i64 n] w fun e w' => e = .returned (.int .u64 (zig n : Int)) ∧ w = w' := by
  unfold in64 at h
  by_cases hn : n < 0
  · have h1 : IntKind.i64.wrap (n + 1) = n + 1 := by rw [IntKind.wrap_i64]; omega
    have h2 : IntKind.i64.wrap (-(n + 1)) = -(n + 1) := by rw [IntKind.wrap_i64]; omega
    have h3 : IntKind.u64.wrap (-(n + 1)) = -(n + 1) := by rw [IntKind.wrap_u64]; omega
    have h4 : IntKind.u64.wrap (-(n + 1) * 2) = -(n + 1) * 2 := by rw [IntKind.wrap_u64]; omega
    have h5 : IntKind.u64.wrap (-(n + 1) * 2 + 1) = -(n + 1) * 2 + 1 := by rw [IntKind.wrap_u64]; omega
    have HZ := Lib.hid (show -(n + 1) * 2 + 1 = (zig n : Int) by unfold zig; rw [if_pos hn]; omega)
    clear h
    go_enter Try.func49, Try.ntmps49
    go_wp2
    go_ret
    exact ⟨by rw [HZ.out]; rfl, rfl⟩
  · have h3 : IntKind.u64.wrap n = n := by rw [IntKind.wrap_u64]; omega
    have h4 : IntKind.u64.wrap (n * 2) = n * 2 := by rw [IntKind.wrap_u64]; omega
    have HZ := Lib.hid (show n * 2 = (zig n : Int) by unfold zig; rw [if_neg hn]; omega)
    clear h
    go_enter Try.func49, Try.ntmps49
    go_wp2
    go_ret
    exact ⟨by rw [HZ.out]; rfl, rfl⟩
theorem txt_word (s : ByteArray) : txt (wordL s) = txt (numL s.size) ++ s := by
  apply str_ext
  simp [txt, wordL]
theorem pword_walk (s : ByteArray) (hs : s.size ≤ 549755813888) (w : World) :
    Calls Try.prog 44 #[.string s] w fun e w' => e = .returned (.string (txt (wordL s))) ∧ Below w.heap.size w w' := by
  have HC := Lib.hid (pnum_walk s.size (by omega))
  have HE := Lib.hid (txt_word s)
  have hW : IntKind.u64.wrap (s.size : Int) = (s.size : Int) := u64_in _ (by omega)
  have hsz : (txt (numL s.size)).size ≤ 10 := by rw [txt_size]; exact numL_len64 (by omega)
  go_enter Try.func44, Try.ntmps44
  go_wp2_with (go_at_call 13; refine (HC.out _).mono ?_; rintro e w2 ⟨rfl, hb⟩; have HB := Lib.hid hb; clear hb)
  go_ret
  exact ⟨by rw [HE.out]; rfl, HB.out⟩

theorem txt_val1 (n : Int) (s : ByteArray) : txt (valL ⟨1, n, s⟩) = ⟨#[1]⟩ ++ txt (intL n) := by apply str_ext; simp [txt, valL]
theorem txt_val2 (x : UInt8) (s : ByteArray) : txt (valL ⟨2, (x.toNat : Int), s⟩) = ⟨#[2]⟩ ++ ⟨#[x]⟩ := by apply str_ext; simp [txt, valL]
theorem txt_val3 (n : Int) (s : ByteArray) : txt (valL ⟨3, n, s⟩) = ⟨#[3]⟩ ++ txt (wordL s) := by apply str_ext; simp [txt, valL]
set_option maxHeartbeats 2000000 in
theorem pvalue_walk (v : V) (hv : okV v) (w : World) : Calls Try.prog 41 #[.agg #[.int .i64 v.k, .int .i64 v.n, .string v.s]] w fun e w' => e = .returned (.string (txt (valL v))) ∧ Below w.heap.size w w' := by
  obtain ⟨k, n, s⟩ := v
  obtain ⟨hc, wk, wn, ws⟩ := hv
  simp only at wk wn ws
  rcases chk_kinds hc with ⟨h1, h2, h3⟩ | ⟨h1, h3⟩ | ⟨h1, h2, h3⟩ | ⟨h1, h2, h3⟩
  · simp only at h1 h2 h3
    subst h1 h2
    have he : Hid (txt (valL ⟨0, 0, s⟩) = ⟨#[0]⟩) := Lib.hid (by apply str_ext; simp [valL, txt])
    have hcv : ∀ (w : World) (g : Nat), w.cell? ⟨g, 0, none⟩ = some (.int .u8 0) → (convert 27 9 (.slice (some ⟨g, 0, none⟩) 1 1)).run Try.prog w = .ok (.string ⟨#[0]⟩) w := fun w g h => bytes_string w g 0 _ h rfl
    dsimp only
    rw [he.out]
    clear he hc wk wn ws h3
    go_enter Try.func41, Try.ntmps41
    go_wp2
    go_ret
    exact ⟨rfl, ((Below.refl _ w).alloc (Nat.le_refl _) _).alloc (by simp) _⟩
  · simp only at h1 h3
    subst h1
    have he := Lib.hid (txt_val1 n s)
    have hcv : ∀ (w : World) (g : Nat), w.cell? ⟨g, 0, none⟩ = some (.int .u8 1) → (convert 27 9 (.slice (some ⟨g, 0, none⟩) 1 1)).run Try.prog w = .ok (.string ⟨#[1]⟩) w := fun w g h => bytes_string w g 1 _ h rfl
    have HI := Lib.hid (fun w => pint_walk n wn w)
    have HC := Lib.hid (pnum_walk (zig n) (zig_lt wn))
    have hsz : (txt (intL n)).size ≤ 10 := by rw [txt_size]; exact numL_len64 (zig_lt wn)
    unfold intL at he hsz
    obtain ⟨z, hz⟩ : ∃ z, zig n = z := ⟨_, rfl⟩
    dsimp only
    rw [he.out]
    rw [hz] at HI HC hsz ⊢
    clear he hc wk wn ws h3 hz
    go_enter Try.func41, Try.ntmps41
    go_wp2_with (first | (go_at_call 49; refine (HI.out _).mono ?_; rintro e w2 ⟨rfl, rfl⟩) | (go_at_call 13; refine (HC.out _).mono ?_; rintro e w3 ⟨rfl, hb⟩; have HB := Lib.hid (hop (((Below.refl _ w).alloc (Nat.le_refl _) _).alloc (by simp) _) hb); clear hb))
    go_ret
    exact ⟨rfl, HB.out⟩
  · simp only at h1 h2 h3
    subst h1
    obtain ⟨x, hx, hxn⟩ : ∃ x : UInt8, n = (x.toNat : Int) ∧ x.toNat ≤ 1 := by
      rcases h2 with h | h
      · exact ⟨0, by rw [h]; rfl, by decide⟩
      · exact ⟨1, by rw [h]; rfl, by decide⟩
    subst hx
    have he := Lib.hid (txt_val2 x s)
    have h4 : IntKind.u8.wrap (x.toNat : Int) = (x.toNat : Int) := by rw [IntKind.wrap_u8]; omega
    have hcv : ∀ (w : World) (g : Nat), w.cell? ⟨g, 0, none⟩ = some (.int .u8 2) → (convert 27 9 (.slice (some ⟨g, 0, none⟩) 1 1)).run Try.prog w = .ok (.string ⟨#[2]⟩) w := fun w g h => bytes_string w g 2 _ h rfl
    have hcx : ∀ (w : World) (g : Nat), w.cell? ⟨g, 0, none⟩ = some (.int .u8 (x.toNat : Int)) → (convert 27 9 (.slice (some ⟨g, 0, none⟩) 1 1)).run Try.prog w = .ok (.string ⟨#[x]⟩) w := fun w g h => bytes_string w g x _ h rfl
    dsimp only
    rw [he.out]
    clear he hc wk wn ws h3 h2 hxn
    go_enter Try.func41, Try.ntmps41
    go_wp2
    go_ret
    exact ⟨rfl, (((Below.refl _ w).alloc (Nat.le_refl _) _).alloc (by simp) _).alloc (by simp; omega) _⟩
  · simp only at h1 h2 h3
    subst h1 h2
    have he := Lib.hid (txt_val3 0 s)
    have hcv : ∀ (w : World) (g : Nat), w.cell? ⟨g, 0, none⟩ = some (.int .u8 3) → (convert 27 9 (.slice (some ⟨g, 0, none⟩) 1 1)).run Try.prog w = .ok (.string ⟨#[3]⟩) w := fun w g h => bytes_string w g 3 _ h rfl
    have HC := Lib.hid (pword_walk s (by omega))
    have hsz : (txt (wordL s)).size ≤ 300 := by
      have := wordL_len (s := s) (by omega)
      rw [txt_size]
      omega
    dsimp only
    rw [he.out]
    clear he hc wk wn ws h3
    go_enter Try.func41, Try.ntmps41
    go_wp2_with (go_at_call 44; refine (HC.out _).mono ?_; rintro e w3 ⟨rfl, hb⟩; have HB := Lib.hid (hop (((Below.refl _ w).alloc (Nat.le_refl _) _).alloc (by simp) _) hb); clear hb)
    go_ret
    exact ⟨rfl, HB.out⟩
end Go.Proofs.Ytkpajmgbiepmbaa
