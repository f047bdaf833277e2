/- The walk of the law that bytes are just one list's. -/
import Derived.Test.YtkpajmgbiepmbaaCodNums
namespace Go.Proofs.Ytkpajmgbiepmbaa
open Go.ChangeShapes Go.WideShapes Go.ChangeAt Go.RowKit
open Go.Lib (byteCells byteCells_length byteCells_append strCells)
set_option linter.unusedVariables false

theorem whole_few {α : Type} {enc : α → List UInt8} {dec : List UInt8 → Option (α × List UInt8)} {ok : α → Prop} (hc : Codec enc dec ok) {l : List UInt8} {xs : List α} (h : whole dec l = some xs) : l = listL enc xs ∧ xs.length ≤ l.length ∧ ∀ a ∈ xs, ok a := by
  obtain ⟨h1, h2, h3⟩ := whole_only hc h
  have := flat_pos hc xs h3
  refine ⟨h1, ?_, h3⟩
  rw [h1]
  unfold listL
  rw [List.length_append]
  omega
theorem mem_flat_le {α : Type} {enc : α → List UInt8} {a : α} : ∀ (xs : List α), a ∈ xs → (enc a).length ≤ (xs.flatMap enc).length
  | b :: xs, h => by
    rw [List.flatMap_cons, List.length_append]
    rcases List.mem_cons.1 h with rfl | h
    · omega
    · have := mem_flat_le (enc := enc) xs h
      omega
theorem rows_list {rs : List Rw} {ls : List (List V)} (h : rs.map Rw.l = ls) : listL rwL rs = listL rowL ls := by
  subst h
  unfold listL
  rw [List.length_map, List.flatMap_map]
  rfl
/-- Rows that were read are told as the bytes that they were read from. -/
theorem only_rows {rs : List Rw} {ls : List (List V)} {l : List UInt8} (hw : whole rRow l = some ls) (hrs : rs.map Rw.l = ls) (hl : l.length ≤ 4096) : rowsO rs = some l ∧ rs.length ≤ 4096 ∧ ∀ r ∈ rs, okR r.l := by
  obtain ⟨h1, h2, h3⟩ := whole_few row_codec hw
  have hok : ∀ r ∈ rs, okR r.l := fun r hr => h3 _ (by rw [← hrs]; exact List.mem_map_of_mem hr)
  refine ⟨?_, ?_, hok⟩
  · rw [rowsO_all (fun r hr => rowB_of (hok r hr)), rows_list hrs, ← h1]
  · have : rs.length = ls.length := by rw [← hrs, List.length_map]
    omega
theorem rows_in {rs : List Rw} {w : World} {B : Nat} {A : Option Addr} {c : Nat} (hok : ∀ r ∈ rs, okR r.l) (ho : w.ownsRow B 80 1 (.slice A rs.length c) rs.length (rs.flatMap rCells)) (hos : OwnRs B rs w) : RowsIn w w.heap.size A rs := by
  refine ⟨(RowC.own rCells_length (by decide) ho).2, fun r hr => ⟨?_, fun v hv => ((hok r hr).2 v hv).2, ?_⟩⟩
  · exact (RowC.own vCells_length (by decide) (hos r hr)).2.v
  · have := (hok r hr).1
    unfold maxLen
    omega
theorem only_cols {l : List UInt8} {xs : List Co} (hw : whole rCol l = some xs) (hl : l.length ≤ 4096) : colsO xs = some l ∧ xs.length ≤ 4096 ∧ (∀ c ∈ xs, c.s.size ≤ 274877906944) ∧ (listL colL xs).length ≤ 16777216 := by
  obtain ⟨h1, h2, h3⟩ := whole_few col_codec hw
  refine ⟨by rw [colsO_all (fun c hc => (h3 c hc).2), ← h1], by omega, fun c hc => ?_, by rw [← h1]; omega⟩
  have hm : (colL c).length ≤ (listL colL xs).length := by
    unfold listL
    rw [List.length_append]
    have := mem_flat_le (enc := colL) xs hc
    omega
  rw [← h1] at hm
  unfold colL wordL at hm
  simp only [List.length_append, ← size_eq] at hm
  omega
theorem only_pairs {l : List UInt8} {xs : List Pa} (hw : whole rPair l = some xs) (hl : l.length ≤ 4096) : listL pairL xs = l ∧ xs.length ≤ 4096 ∧ (∀ c ∈ xs, c.s.size ≤ 274877906944 ∧ c.t.size ≤ 274877906944) ∧ (listL pairL xs).length ≤ 16777216 := by
  obtain ⟨h1, h2, h3⟩ := whole_few pair_codec hw
  refine ⟨h1.symm, by omega, fun c hc => ?_, by rw [← h1]; omega⟩
  have hm : (pairL c).length ≤ (listL pairL xs).length := by
    unfold listL
    rw [List.length_append]
    have := mem_flat_le (enc := pairL) xs hc
    omega
  rw [← h1] at hm
  unfold pairL wordL at hm
  simp only [List.length_append, ← size_eq] at hm
  omega
theorem only_nums {l : List UInt8} {xs : List Int} (hw : whole rInt l = some xs) (hl : l.length ≤ 4096) : listL intL xs = l ∧ xs.length ≤ 4096 ∧ ∀ c ∈ xs, in64 c := by
  obtain ⟨h1, h2, h3⟩ := whole_few int_codec hw
  exact ⟨h1.symm, by omega, h3⟩
section
variable (s : ByteArray) (c b : Nat) (w : World) (hl : s.size ≤ 2000) (hc : s.size ≤ c) (hcm : c ≤ maxLen) (hb : BytesAt w w.heap.size (some ⟨b, 0, none⟩) s.data.toList)
include hl hc hcm hb
theorem unrows_text : Calls Try.prog 24 #[.slice (some ⟨b, 0, none⟩) s.size c] w (WholeRows (whole rRow s.data.toList) w) := unrows_walk _ _ _ _ _ (size_eq s) hc hcm (by omega) hb
theorem uncols_text : Calls Try.prog 25 #[.slice (some ⟨b, 0, none⟩) s.size c] w (WholePost 39 2 cCells (whole rCol s.data.toList) w) := uncols_walk _ _ _ _ _ (size_eq s) hc hcm (by omega) hb
theorem unpairs_text : Calls Try.prog 26 #[.slice (some ⟨b, 0, none⟩) s.size c] w (WholePost 70 2 pCells (whole rPair s.data.toList) w) := unpairs_walk _ _ _ _ _ (size_eq s) hc hcm (by omega) hb
theorem unnums_text : Calls Try.prog 27 #[.slice (some ⟨b, 0, none⟩) s.size c] w (WholePost 2 1 iCells (whole rInt s.data.toList) w) := unnums_walk _ _ _ _ _ (size_eq s) hc hcm (by omega) hb
end
set_option maxRecDepth 4000 in
set_option maxHeartbeats 4000000 in
theorem only_r0c0p0n0 (s : ByteArray) (hs : s.size ≤ maxLen) (hs2 : s.size ≤ 2000) (w : World) (hur : whole rRow s.data.toList = none) (huc : whole rCol s.data.toList = none) (hup : whole rPair s.data.toList = none) (hun : whole rInt s.data.toList = none) :
    Calls Try.prog 7 #[.string s] w fun e w' => e = .returned (.bool true) ∧ Below w.heap.size w w' := by
  have hd2 : decide ((2000 : Int) < (s.size : Int)) = false := decide_eq_false (by omega)
  have HS := Lib.hid hs
  have HL := Lib.hid (show s.data.toList.length ≤ 4096 by rw [← size_eq]; omega)
  have HUr := Lib.hid hur
  have HUc := Lib.hid huc
  have HUp := Lib.hid hup
  have HUn := Lib.hid hun
  have hcv := fun W => run_bytes_of_string (P := Try.prog) W 9 27 5 s Try.underlying9 Try.underlying27 Try.underlying5
  clear hs hur huc hup hun
  go_enter Try.func7, Try.ntmps7
  go_wp2_with (first | (go_at_call 9; refine (alive_any _).mono ?_; rintro e w1 ⟨rfl, hb1⟩; have HB := Lib.hid hb1; clear hb1) | (go_at_call 24; refine (unrows_text s _ _ _ hs2 (grownCap_ge _ _ _ _) (grownCap_le_maxLen _ _ _ _ HS.out) ?c1).mono ?_; (case c1 => exact laid_bytes s _ _ _ _); rw [HUr.out]; rintro e wu ⟨rfl, hbu⟩; have HB := Lib.hid (hop (HB.out.alloc HB.out.size _).drew hbu); clear hbu) | (go_at_call 25; refine (uncols_text s _ _ _ hs2 (grownCap_ge _ _ _ _) (grownCap_le_maxLen _ _ _ _ HS.out) ?c1).mono ?_; (case c1 => exact laid_bytes s _ _ _ _); rw [HUc.out]; rintro e wu ⟨rfl, hbu⟩; have HB := Lib.hid (hop (HB.out.alloc HB.out.size _).drew hbu); clear hbu) | (go_at_call 26; refine (unpairs_text s _ _ _ hs2 (grownCap_ge _ _ _ _) (grownCap_le_maxLen _ _ _ _ HS.out) ?c1).mono ?_; (case c1 => exact laid_bytes s _ _ _ _); rw [HUp.out]; rintro e wu ⟨rfl, hbu⟩; have HB := Lib.hid (hop (HB.out.alloc HB.out.size _).drew hbu); clear hbu) | (go_at_call 27; refine (unnums_text s _ _ _ hs2 (grownCap_ge _ _ _ _) (grownCap_le_maxLen _ _ _ _ HS.out) ?c1).mono ?_; (case c1 => exact laid_bytes s _ _ _ _); rw [HUn.out]; rintro e wu ⟨rfl, hbu⟩; have HB := Lib.hid (hop (HB.out.alloc HB.out.size _).drew hbu); clear hbu))
  go_ret
  exact ⟨rfl, HB.out⟩
set_option maxRecDepth 4000 in
set_option maxHeartbeats 4000000 in
theorem only_rc0p0n0 (s : ByteArray) (hs : s.size ≤ maxLen) (hs2 : s.size ≤ 2000) (w : World) (xr : List (List V)) (hur : whole rRow s.data.toList = some xr) (huc : whole rCol s.data.toList = none) (hup : whole rPair s.data.toList = none) (hun : whole rInt s.data.toList = none) :
    Calls Try.prog 7 #[.string s] w fun e w' => e = .returned (.bool true) ∧ Below w.heap.size w w' := by
  have hd2 : decide ((2000 : Int) < (s.size : Int)) = false := decide_eq_false (by omega)
  have HS := Lib.hid hs
  have HL := Lib.hid (show s.data.toList.length ≤ 4096 by rw [← size_eq]; omega)
  have HUr := Lib.hid hur
  have HUc := Lib.hid huc
  have HUp := Lib.hid hup
  have HUn := Lib.hid hun
  have hcv := fun W => run_bytes_of_string (P := Try.prog) W 9 27 5 s Try.underlying9 Try.underlying27 Try.underlying5
  clear hs hur huc hup hun
  go_enter Try.func7, Try.ntmps7
  go_wp2_with (first | (go_at_call 9; refine (alive_any _).mono ?_; rintro e w1 ⟨rfl, hb1⟩; have HB := Lib.hid hb1; clear hb1) | (go_at_call 24; refine (unrows_text s _ _ _ hs2 (grownCap_ge _ _ _ _) (grownCap_le_maxLen _ _ _ _ HS.out) ?c1).mono ?_; (case c1 => exact laid_bytes s _ _ _ _); rw [HUr.out]; rintro e wu ⟨rs, Ar, cr, hrs, rfl, hor, hosr, hbu⟩; have HFr := Lib.hid (only_rows HUr.out hrs HL.out); have HIr := Lib.hid (rows_in HFr.out.2.2 hor hosr); clear hrs hor hosr; have HB := Lib.hid (hop (HB.out.alloc HB.out.size _).drew hbu); clear hbu) | (go_at_call 15; refine (rows_walk rs Ar _ cr _ rfl HFr.out.2.1 HIr.out).mono ?_; rw [HFr.out.1]; rintro e wt ⟨At, nt, ct, rfl, hbt, hbel⟩; have hcvRows := string_of_buf hbt; rw [txt_data] at hcvRows; have HB := Lib.hid (hop HB.out hbel); clear hbt hbel) | (go_at_call 25; refine (uncols_text s _ _ _ hs2 (grownCap_ge _ _ _ _) (grownCap_le_maxLen _ _ _ _ HS.out) ?c1).mono ?_; (case c1 => exact laid_bytes s _ _ _ _); rw [HUc.out]; rintro e wu ⟨rfl, hbu⟩; have HB := Lib.hid (hop (HB.out.alloc HB.out.size _).drew hbu); clear hbu) | (go_at_call 26; refine (unpairs_text s _ _ _ hs2 (grownCap_ge _ _ _ _) (grownCap_le_maxLen _ _ _ _ HS.out) ?c1).mono ?_; (case c1 => exact laid_bytes s _ _ _ _); rw [HUp.out]; rintro e wu ⟨rfl, hbu⟩; have HB := Lib.hid (hop (HB.out.alloc HB.out.size _).drew hbu); clear hbu) | (go_at_call 27; refine (unnums_text s _ _ _ hs2 (grownCap_ge _ _ _ _) (grownCap_le_maxLen _ _ _ _ HS.out) ?c1).mono ?_; (case c1 => exact laid_bytes s _ _ _ _); rw [HUn.out]; rintro e wu ⟨rfl, hbu⟩; have HB := Lib.hid (hop (HB.out.alloc HB.out.size _).drew hbu); clear hbu))
  go_ret
  exact ⟨rfl, HB.out⟩
set_option maxRecDepth 4000 in
set_option maxHeartbeats 4000000 in
theorem only_r0cp0n0 (s : ByteArray) (hs : s.size ≤ maxLen) (hs2 : s.size ≤ 2000) (w : World) (hur : whole rRow s.data.toList = none) (xc : List Co) (huc : whole rCol s.data.toList = some xc) (hup : whole rPair s.data.toList = none) (hun : whole rInt s.data.toList = none) :
    Calls Try.prog 7 #[.string s] w fun e w' => e = .returned (.bool true) ∧ Below w.heap.size w w' := by
  have hd2 : decide ((2000 : Int) < (s.size : Int)) = false := decide_eq_false (by omega)
  have HS := Lib.hid hs
  have HL := Lib.hid (show s.data.toList.length ≤ 4096 by rw [← size_eq]; omega)
  have HUr := Lib.hid hur
  have HUc := Lib.hid huc
  have HUp := Lib.hid hup
  have HUn := Lib.hid hun
  have HFc := Lib.hid (only_cols HUc.out HL.out)
  have hcv := fun W => run_bytes_of_string (P := Try.prog) W 9 27 5 s Try.underlying9 Try.underlying27 Try.underlying5
  clear hs hur huc hup hun
  go_enter Try.func7, Try.ntmps7
  go_wp2_with (first | (go_at_call 9; refine (alive_any _).mono ?_; rintro e w1 ⟨rfl, hb1⟩; have HB := Lib.hid hb1; clear hb1) | (go_at_call 24; refine (unrows_text s _ _ _ hs2 (grownCap_ge _ _ _ _) (grownCap_le_maxLen _ _ _ _ HS.out) ?c1).mono ?_; (case c1 => exact laid_bytes s _ _ _ _); rw [HUr.out]; rintro e wu ⟨rfl, hbu⟩; have HB := Lib.hid (hop (HB.out.alloc HB.out.size _).drew hbu); clear hbu) | (go_at_call 25; refine (uncols_text s _ _ _ hs2 (grownCap_ge _ _ _ _) (grownCap_le_maxLen _ _ _ _ HS.out) ?c1).mono ?_; (case c1 => exact laid_bytes s _ _ _ _); rw [HUc.out]; rintro e wu ⟨Ac, cc, rfl, hoc, hbu⟩; have HIc := Lib.hid (RowC.own cCells_length (by decide) hoc).2; clear hoc; have HB := Lib.hid (hop (HB.out.alloc HB.out.size _).drew hbu); clear hbu) | (go_at_call 18; refine (cols_walk xc HFc.out.2.2.1 HFc.out.2.2.2 Ac _ cc _ rfl (by have := HFc.out.2.1; omega) HIc.out).mono ?_; rw [HFc.out.1]; rintro e wt ⟨At, nt, ct, rfl, hbt, hbel⟩; have hcvCols := string_of_buf hbt; rw [txt_data] at hcvCols; have HB := Lib.hid (hop HB.out hbel); clear hbt hbel) | (go_at_call 26; refine (unpairs_text s _ _ _ hs2 (grownCap_ge _ _ _ _) (grownCap_le_maxLen _ _ _ _ HS.out) ?c1).mono ?_; (case c1 => exact laid_bytes s _ _ _ _); rw [HUp.out]; rintro e wu ⟨rfl, hbu⟩; have HB := Lib.hid (hop (HB.out.alloc HB.out.size _).drew hbu); clear hbu) | (go_at_call 27; refine (unnums_text s _ _ _ hs2 (grownCap_ge _ _ _ _) (grownCap_le_maxLen _ _ _ _ HS.out) ?c1).mono ?_; (case c1 => exact laid_bytes s _ _ _ _); rw [HUn.out]; rintro e wu ⟨rfl, hbu⟩; have HB := Lib.hid (hop (HB.out.alloc HB.out.size _).drew hbu); clear hbu))
  go_ret
  exact ⟨rfl, HB.out⟩
set_option maxRecDepth 4000 in
set_option maxHeartbeats 4000000 in
theorem only_rcp0n0 (s : ByteArray) (hs : s.size ≤ maxLen) (hs2 : s.size ≤ 2000) (w : World) (xr : List (List V)) (hur : whole rRow s.data.toList = some xr) (xc : List Co) (huc : whole rCol s.data.toList = some xc) (hup : whole rPair s.data.toList = none) (hun : whole rInt s.data.toList = none) :
    Calls Try.prog 7 #[.string s] w fun e w' => e = .returned (.bool true) ∧ Below w.heap.size w w' := by
  have hd2 : decide ((2000 : Int) < (s.size : Int)) = false := decide_eq_false (by omega)
  have HS := Lib.hid hs
  have HL := Lib.hid (show s.data.toList.length ≤ 4096 by rw [← size_eq]; omega)
  have HUr := Lib.hid hur
  have HUc := Lib.hid huc
  have HUp := Lib.hid hup
  have HUn := Lib.hid hun
  have HFc := Lib.hid (only_cols HUc.out HL.out)
  have hcv := fun W => run_bytes_of_string (P := Try.prog) W 9 27 5 s Try.underlying9 Try.underlying27 Try.underlying5
  clear hs hur huc hup hun
  go_enter Try.func7, Try.ntmps7
  go_wp2_with (first | (go_at_call 9; refine (alive_any _).mono ?_; rintro e w1 ⟨rfl, hb1⟩; have HB := Lib.hid hb1; clear hb1) | (go_at_call 24; refine (unrows_text s _ _ _ hs2 (grownCap_ge _ _ _ _) (grownCap_le_maxLen _ _ _ _ HS.out) ?c1).mono ?_; (case c1 => exact laid_bytes s _ _ _ _); rw [HUr.out]; rintro e wu ⟨rs, Ar, cr, hrs, rfl, hor, hosr, hbu⟩; have HFr := Lib.hid (only_rows HUr.out hrs HL.out); have HIr := Lib.hid (rows_in HFr.out.2.2 hor hosr); clear hrs hor hosr; have HB := Lib.hid (hop (HB.out.alloc HB.out.size _).drew hbu); clear hbu) | (go_at_call 15; refine (rows_walk rs Ar _ cr _ rfl HFr.out.2.1 HIr.out).mono ?_; rw [HFr.out.1]; rintro e wt ⟨At, nt, ct, rfl, hbt, hbel⟩; have hcvRows := string_of_buf hbt; rw [txt_data] at hcvRows; have HB := Lib.hid (hop HB.out hbel); clear hbt hbel) | (go_at_call 25; refine (uncols_text s _ _ _ hs2 (grownCap_ge _ _ _ _) (grownCap_le_maxLen _ _ _ _ HS.out) ?c1).mono ?_; (case c1 => exact laid_bytes s _ _ _ _); rw [HUc.out]; rintro e wu ⟨Ac, cc, rfl, hoc, hbu⟩; have HIc := Lib.hid (RowC.own cCells_length (by decide) hoc).2; clear hoc; have HB := Lib.hid (hop (HB.out.alloc HB.out.size _).drew hbu); clear hbu) | (go_at_call 18; refine (cols_walk xc HFc.out.2.2.1 HFc.out.2.2.2 Ac _ cc _ rfl (by have := HFc.out.2.1; omega) HIc.out).mono ?_; rw [HFc.out.1]; rintro e wt ⟨At, nt, ct, rfl, hbt, hbel⟩; have hcvCols := string_of_buf hbt; rw [txt_data] at hcvCols; have HB := Lib.hid (hop HB.out hbel); clear hbt hbel) | (go_at_call 26; refine (unpairs_text s _ _ _ hs2 (grownCap_ge _ _ _ _) (grownCap_le_maxLen _ _ _ _ HS.out) ?c1).mono ?_; (case c1 => exact laid_bytes s _ _ _ _); rw [HUp.out]; rintro e wu ⟨rfl, hbu⟩; have HB := Lib.hid (hop (HB.out.alloc HB.out.size _).drew hbu); clear hbu) | (go_at_call 27; refine (unnums_text s _ _ _ hs2 (grownCap_ge _ _ _ _) (grownCap_le_maxLen _ _ _ _ HS.out) ?c1).mono ?_; (case c1 => exact laid_bytes s _ _ _ _); rw [HUn.out]; rintro e wu ⟨rfl, hbu⟩; have HB := Lib.hid (hop (HB.out.alloc HB.out.size _).drew hbu); clear hbu))
  go_ret
  exact ⟨rfl, HB.out⟩
set_option maxRecDepth 4000 in
set_option maxHeartbeats 4000000 in
theorem only_r0c0pn0 (s : ByteArray) (hs : s.size ≤ maxLen) (hs2 : s.size ≤ 2000) (w : World) (hur : whole rRow s.data.toList = none) (huc : whole rCol s.data.toList = none) (xp : List Pa) (hup : whole rPair s.data.toList = some xp) (hun : whole rInt s.data.toList = none) :
    Calls Try.prog 7 #[.string s] w fun e w' => e = .returned (.bool true) ∧ Below w.heap.size w w' := by
  have hd2 : decide ((2000 : Int) < (s.size : Int)) = false := decide_eq_false (by omega)
  have HS := Lib.hid hs
  have HL := Lib.hid (show s.data.toList.length ≤ 4096 by rw [← size_eq]; omega)
  have HUr := Lib.hid hur
  have HUc := Lib.hid huc
  have HUp := Lib.hid hup
  have HUn := Lib.hid hun
  have HFp := Lib.hid (only_pairs HUp.out HL.out)
  have hcv := fun W => run_bytes_of_string (P := Try.prog) W 9 27 5 s Try.underlying9 Try.underlying27 Try.underlying5
  clear hs hur huc hup hun
  go_enter Try.func7, Try.ntmps7
  go_wp2_with (first | (go_at_call 9; refine (alive_any _).mono ?_; rintro e w1 ⟨rfl, hb1⟩; have HB := Lib.hid hb1; clear hb1) | (go_at_call 24; refine (unrows_text s _ _ _ hs2 (grownCap_ge _ _ _ _) (grownCap_le_maxLen _ _ _ _ HS.out) ?c1).mono ?_; (case c1 => exact laid_bytes s _ _ _ _); rw [HUr.out]; rintro e wu ⟨rfl, hbu⟩; have HB := Lib.hid (hop (HB.out.alloc HB.out.size _).drew hbu); clear hbu) | (go_at_call 25; refine (uncols_text s _ _ _ hs2 (grownCap_ge _ _ _ _) (grownCap_le_maxLen _ _ _ _ HS.out) ?c1).mono ?_; (case c1 => exact laid_bytes s _ _ _ _); rw [HUc.out]; rintro e wu ⟨rfl, hbu⟩; have HB := Lib.hid (hop (HB.out.alloc HB.out.size _).drew hbu); clear hbu) | (go_at_call 26; refine (unpairs_text s _ _ _ hs2 (grownCap_ge _ _ _ _) (grownCap_le_maxLen _ _ _ _ HS.out) ?c1).mono ?_; (case c1 => exact laid_bytes s _ _ _ _); rw [HUp.out]; rintro e wu ⟨Ap, cp, rfl, hop_, hbu⟩; have HIp := Lib.hid (RowC.own pCells_length (by decide) hop_).2; clear hop_; have HB := Lib.hid (hop (HB.out.alloc HB.out.size _).drew hbu); clear hbu) | (go_at_call 20; refine (pairs_walk xp HFp.out.2.2.1 HFp.out.2.2.2 Ap _ cp _ rfl (by have := HFp.out.2.1; omega) HIp.out).mono ?_; rw [HFp.out.1]; rintro e wt ⟨At, nt, ct, rfl, hbt, hbel⟩; have hcvPairs := string_of_buf hbt; rw [txt_data] at hcvPairs; have HB := Lib.hid (hop HB.out hbel); clear hbt hbel) | (go_at_call 27; refine (unnums_text s _ _ _ hs2 (grownCap_ge _ _ _ _) (grownCap_le_maxLen _ _ _ _ HS.out) ?c1).mono ?_; (case c1 => exact laid_bytes s _ _ _ _); rw [HUn.out]; rintro e wu ⟨rfl, hbu⟩; have HB := Lib.hid (hop (HB.out.alloc HB.out.size _).drew hbu); clear hbu))
  go_ret
  exact ⟨rfl, HB.out⟩
set_option maxRecDepth 4000 in
set_option maxHeartbeats 4000000 in
theorem only_rc0pn0 (s : ByteArray) (hs : s.size ≤ maxLen) (hs2 : s.size ≤ 2000) (w : World) (xr : List (List V)) (hur : whole rRow s.data.toList = some xr) (huc : whole rCol s.data.toList = none) (xp : List Pa) (hup : whole rPair s.data.toList = some xp) (hun : whole rInt s.data.toList = none) :
    Calls Try.prog 7 #[.string s] w fun e w' => e = .returned (.bool true) ∧ Below w.heap.size w w' := by
  have hd2 : decide ((2000 : Int) < (s.size : Int)) = false := decide_eq_false (by omega)
  have HS := Lib.hid hs
  have HL := Lib.hid (show s.data.toList.length ≤ 4096 by rw [← size_eq]; omega)
  have HUr := Lib.hid hur
  have HUc := Lib.hid huc
  have HUp := Lib.hid hup
  have HUn := Lib.hid hun
  have HFp := Lib.hid (only_pairs HUp.out HL.out)
  have hcv := fun W => run_bytes_of_string (P := Try.prog) W 9 27 5 s Try.underlying9 Try.underlying27 Try.underlying5
  clear hs hur huc hup hun
  go_enter Try.func7, Try.ntmps7
  go_wp2_with (first | (go_at_call 9; refine (alive_any _).mono ?_; rintro e w1 ⟨rfl, hb1⟩; have HB := Lib.hid hb1; clear hb1) | (go_at_call 24; refine (unrows_text s _ _ _ hs2 (grownCap_ge _ _ _ _) (grownCap_le_maxLen _ _ _ _ HS.out) ?c1).mono ?_; (case c1 => exact laid_bytes s _ _ _ _); rw [HUr.out]; rintro e wu ⟨rs, Ar, cr, hrs, rfl, hor, hosr, hbu⟩; have HFr := Lib.hid (only_rows HUr.out hrs HL.out); have HIr := Lib.hid (rows_in HFr.out.2.2 hor hosr); clear hrs hor hosr; have HB := Lib.hid (hop (HB.out.alloc HB.out.size _).drew hbu); clear hbu) | (go_at_call 15; refine (rows_walk rs Ar _ cr _ rfl HFr.out.2.1 HIr.out).mono ?_; rw [HFr.out.1]; rintro e wt ⟨At, nt, ct, rfl, hbt, hbel⟩; have hcvRows := string_of_buf hbt; rw [txt_data] at hcvRows; have HB := Lib.hid (hop HB.out hbel); clear hbt hbel) | (go_at_call 25; refine (uncols_text s _ _ _ hs2 (grownCap_ge _ _ _ _) (grownCap_le_maxLen _ _ _ _ HS.out) ?c1).mono ?_; (case c1 => exact laid_bytes s _ _ _ _); rw [HUc.out]; rintro e wu ⟨rfl, hbu⟩; have HB := Lib.hid (hop (HB.out.alloc HB.out.size _).drew hbu); clear hbu) | (go_at_call 26; refine (unpairs_text s _ _ _ hs2 (grownCap_ge _ _ _ _) (grownCap_le_maxLen _ _ _ _ HS.out) ?c1).mono ?_; (case c1 => exact laid_bytes s _ _ _ _); rw [HUp.out]; rintro e wu ⟨Ap, cp, rfl, hop_, hbu⟩; have HIp := Lib.hid (RowC.own pCells_length (by decide) hop_).2; clear hop_; have HB := Lib.hid (hop (HB.out.alloc HB.out.size _).drew hbu); clear hbu) | (go_at_call 20; refine (pairs_walk xp HFp.out.2.2.1 HFp.out.2.2.2 Ap _ cp _ rfl (by have := HFp.out.2.1; omega) HIp.out).mono ?_; rw [HFp.out.1]; rintro e wt ⟨At, nt, ct, rfl, hbt, hbel⟩; have hcvPairs := string_of_buf hbt; rw [txt_data] at hcvPairs; have HB := Lib.hid (hop HB.out hbel); clear hbt hbel) | (go_at_call 27; refine (unnums_text s _ _ _ hs2 (grownCap_ge _ _ _ _) (grownCap_le_maxLen _ _ _ _ HS.out) ?c1).mono ?_; (case c1 => exact laid_bytes s _ _ _ _); rw [HUn.out]; rintro e wu ⟨rfl, hbu⟩; have HB := Lib.hid (hop (HB.out.alloc HB.out.size _).drew hbu); clear hbu))
  go_ret
  exact ⟨rfl, HB.out⟩
set_option maxRecDepth 4000 in
set_option maxHeartbeats 4000000 in
theorem only_r0cpn0 (s : ByteArray) (hs : s.size ≤ maxLen) (hs2 : s.size ≤ 2000) (w : World) (hur : whole rRow s.data.toList = none) (xc : List Co) (huc : whole rCol s.data.toList = some xc) (xp : List Pa) (hup : whole rPair s.data.toList = some xp) (hun : whole rInt s.data.toList = none) :
    Calls Try.prog 7 #[.string s] w fun e w' => e = .returned (.bool true) ∧ Below w.heap.size w w' := by
  have hd2 : decide ((2000 : Int) < (s.size : Int)) = false := decide_eq_false (by omega)
  have HS := Lib.hid hs
  have HL := Lib.hid (show s.data.toList.length ≤ 4096 by rw [← size_eq]; omega)
  have HUr := Lib.hid hur
  have HUc := Lib.hid huc
  have HUp := Lib.hid hup
  have HUn := Lib.hid hun
  have HFc := Lib.hid (only_cols HUc.out HL.out)
  have HFp := Lib.hid (only_pairs HUp.out HL.out)
  have hcv := fun W => run_bytes_of_string (P := Try.prog) W 9 27 5 s Try.underlying9 Try.underlying27 Try.underlying5
  clear hs hur huc hup hun
  go_enter Try.func7, Try.ntmps7
  go_wp2_with (first | (go_at_call 9; refine (alive_any _).mono ?_; rintro e w1 ⟨rfl, hb1⟩; have HB := Lib.hid hb1; clear hb1) | (go_at_call 24; refine (unrows_text s _ _ _ hs2 (grownCap_ge _ _ _ _) (grownCap_le_maxLen _ _ _ _ HS.out) ?c1).mono ?_; (case c1 => exact laid_bytes s _ _ _ _); rw [HUr.out]; rintro e wu ⟨rfl, hbu⟩; have HB := Lib.hid (hop (HB.out.alloc HB.out.size _).drew hbu); clear hbu) | (go_at_call 25; refine (uncols_text s _ _ _ hs2 (grownCap_ge _ _ _ _) (grownCap_le_maxLen _ _ _ _ HS.out) ?c1).mono ?_; (case c1 => exact laid_bytes s _ _ _ _); rw [HUc.out]; rintro e wu ⟨Ac, cc, rfl, hoc, hbu⟩; have HIc := Lib.hid (RowC.own cCells_length (by decide) hoc).2; clear hoc; have HB := Lib.hid (hop (HB.out.alloc HB.out.size _).drew hbu); clear hbu) | (go_at_call 18; refine (cols_walk xc HFc.out.2.2.1 HFc.out.2.2.2 Ac _ cc _ rfl (by have := HFc.out.2.1; omega) HIc.out).mono ?_; rw [HFc.out.1]; rintro e wt ⟨At, nt, ct, rfl, hbt, hbel⟩; have hcvCols := string_of_buf hbt; rw [txt_data] at hcvCols; have HB := Lib.hid (hop HB.out hbel); clear hbt hbel) | (go_at_call 26; refine (unpairs_text s _ _ _ hs2 (grownCap_ge _ _ _ _) (grownCap_le_maxLen _ _ _ _ HS.out) ?c1).mono ?_; (case c1 => exact laid_bytes s _ _ _ _); rw [HUp.out]; rintro e wu ⟨Ap, cp, rfl, hop_, hbu⟩; have HIp := Lib.hid (RowC.own pCells_length (by decide) hop_).2; clear hop_; have HB := Lib.hid (hop (HB.out.alloc HB.out.size _).drew hbu); clear hbu) | (go_at_call 20; refine (pairs_walk xp HFp.out.2.2.1 HFp.out.2.2.2 Ap _ cp _ rfl (by have := HFp.out.2.1; omega) HIp.out).mono ?_; rw [HFp.out.1]; rintro e wt ⟨At, nt, ct, rfl, hbt, hbel⟩; have hcvPairs := string_of_buf hbt; rw [txt_data] at hcvPairs; have HB := Lib.hid (hop HB.out hbel); clear hbt hbel) | (go_at_call 27; refine (unnums_text s _ _ _ hs2 (grownCap_ge _ _ _ _) (grownCap_le_maxLen _ _ _ _ HS.out) ?c1).mono ?_; (case c1 => exact laid_bytes s _ _ _ _); rw [HUn.out]; rintro e wu ⟨rfl, hbu⟩; have HB := Lib.hid (hop (HB.out.alloc HB.out.size _).drew hbu); clear hbu))
  go_ret
  exact ⟨rfl, HB.out⟩
set_option maxRecDepth 4000 in
set_option maxHeartbeats 4000000 in
theorem only_rcpn0 (s : ByteArray) (hs : s.size ≤ maxLen) (hs2 : s.size ≤ 2000) (w : World) (xr : List (List V)) (hur : whole rRow s.data.toList = some xr) (xc : List Co) (huc : whole rCol s.data.toList = some xc) (xp : List Pa) (hup : whole rPair s.data.toList = some xp) (hun : whole rInt s.data.toList = none) :
    Calls Try.prog 7 #[.string s] w fun e w' => e = .returned (.bool true) ∧ Below w.heap.size w w' := by
  have hd2 : decide ((2000 : Int) < (s.size : Int)) = false := decide_eq_false (by omega)
  have HS := Lib.hid hs
  have HL := Lib.hid (show s.data.toList.length ≤ 4096 by rw [← size_eq]; omega)
  have HUr := Lib.hid hur
  have HUc := Lib.hid huc
  have HUp := Lib.hid hup
  have HUn := Lib.hid hun
  have HFc := Lib.hid (only_cols HUc.out HL.out)
  have HFp := Lib.hid (only_pairs HUp.out HL.out)
  have hcv := fun W => run_bytes_of_string (P := Try.prog) W 9 27 5 s Try.underlying9 Try.underlying27 Try.underlying5
  clear hs hur huc hup hun
  go_enter Try.func7, Try.ntmps7
  go_wp2_with (first | (go_at_call 9; refine (alive_any _).mono ?_; rintro e w1 ⟨rfl, hb1⟩; have HB := Lib.hid hb1; clear hb1) | (go_at_call 24; refine (unrows_text s _ _ _ hs2 (grownCap_ge _ _ _ _) (grownCap_le_maxLen _ _ _ _ HS.out) ?c1).mono ?_; (case c1 => exact laid_bytes s _ _ _ _); rw [HUr.out]; rintro e wu ⟨rs, Ar, cr, hrs, rfl, hor, hosr, hbu⟩; have HFr := Lib.hid (only_rows HUr.out hrs HL.out); have HIr := Lib.hid (rows_in HFr.out.2.2 hor hosr); clear hrs hor hosr; have HB := Lib.hid (hop (HB.out.alloc HB.out.size _).drew hbu); clear hbu) | (go_at_call 15; refine (rows_walk rs Ar _ cr _ rfl HFr.out.2.1 HIr.out).mono ?_; rw [HFr.out.1]; rintro e wt ⟨At, nt, ct, rfl, hbt, hbel⟩; have hcvRows := string_of_buf hbt; rw [txt_data] at hcvRows; have HB := Lib.hid (hop HB.out hbel); clear hbt hbel) | (go_at_call 25; refine (uncols_text s _ _ _ hs2 (grownCap_ge _ _ _ _) (grownCap_le_maxLen _ _ _ _ HS.out) ?c1).mono ?_; (case c1 => exact laid_bytes s _ _ _ _); rw [HUc.out]; rintro e wu ⟨Ac, cc, rfl, hoc, hbu⟩; have HIc := Lib.hid (RowC.own cCells_length (by decide) hoc).2; clear hoc; have HB := Lib.hid (hop (HB.out.alloc HB.out.size _).drew hbu); clear hbu) | (go_at_call 18; refine (cols_walk xc HFc.out.2.2.1 HFc.out.2.2.2 Ac _ cc _ rfl (by have := HFc.out.2.1; omega) HIc.out).mono ?_; rw [HFc.out.1]; rintro e wt ⟨At, nt, ct, rfl, hbt, hbel⟩; have hcvCols := string_of_buf hbt; rw [txt_data] at hcvCols; have HB := Lib.hid (hop HB.out hbel); clear hbt hbel) | (go_at_call 26; refine (unpairs_text s _ _ _ hs2 (grownCap_ge _ _ _ _) (grownCap_le_maxLen _ _ _ _ HS.out) ?c1).mono ?_; (case c1 => exact laid_bytes s _ _ _ _); rw [HUp.out]; rintro e wu ⟨Ap, cp, rfl, hop_, hbu⟩; have HIp := Lib.hid (RowC.own pCells_length (by decide) hop_).2; clear hop_; have HB := Lib.hid (hop (HB.out.alloc HB.out.size _).drew hbu); clear hbu) | (go_at_call 20; refine (pairs_walk xp HFp.out.2.2.1 HFp.out.2.2.2 Ap _ cp _ rfl (by have := HFp.out.2.1; omega) HIp.out).mono ?_; rw [HFp.out.1]; rintro e wt ⟨At, nt, ct, rfl, hbt, hbel⟩; have hcvPairs := string_of_buf hbt; rw [txt_data] at hcvPairs; have HB := Lib.hid (hop HB.out hbel); clear hbt hbel) | (go_at_call 27; refine (unnums_text s _ _ _ hs2 (grownCap_ge _ _ _ _) (grownCap_le_maxLen _ _ _ _ HS.out) ?c1).mono ?_; (case c1 => exact laid_bytes s _ _ _ _); rw [HUn.out]; rintro e wu ⟨rfl, hbu⟩; have HB := Lib.hid (hop (HB.out.alloc HB.out.size _).drew hbu); clear hbu))
  go_ret
  exact ⟨rfl, HB.out⟩
set_option maxRecDepth 4000 in
set_option maxHeartbeats 4000000 in
theorem only_r0c0p0n (s : ByteArray) (hs : s.size ≤ maxLen) (hs2 : s.size ≤ 2000) (w : World) (hur : whole rRow s.data.toList = none) (huc : whole rCol s.data.toList = none) (hup : whole rPair s.data.toList = none) (xn : List Int) (hun : whole rInt s.data.toList = some xn) :
    Calls Try.prog 7 #[.string s] w fun e w' => e = .returned (.bool true) ∧ Below w.heap.size w w' := by
  have hd2 : decide ((2000 : Int) < (s.size : Int)) = false := decide_eq_false (by omega)
  have HS := Lib.hid hs
  have HL := Lib.hid (show s.data.toList.length ≤ 4096 by rw [← size_eq]; omega)
  have HUr := Lib.hid hur
  have HUc := Lib.hid huc
  have HUp := Lib.hid hup
  have HUn := Lib.hid hun
  have HFn := Lib.hid (only_nums HUn.out HL.out)
  have hcv := fun W => run_bytes_of_string (P := Try.prog) W 9 27 5 s Try.underlying9 Try.underlying27 Try.underlying5
  clear hs hur huc hup hun
  go_enter Try.func7, Try.ntmps7
  go_wp2_with (first | (go_at_call 9; refine (alive_any _).mono ?_; rintro e w1 ⟨rfl, hb1⟩; have HB := Lib.hid hb1; clear hb1) | (go_at_call 24; refine (unrows_text s _ _ _ hs2 (grownCap_ge _ _ _ _) (grownCap_le_maxLen _ _ _ _ HS.out) ?c1).mono ?_; (case c1 => exact laid_bytes s _ _ _ _); rw [HUr.out]; rintro e wu ⟨rfl, hbu⟩; have HB := Lib.hid (hop (HB.out.alloc HB.out.size _).drew hbu); clear hbu) | (go_at_call 25; refine (uncols_text s _ _ _ hs2 (grownCap_ge _ _ _ _) (grownCap_le_maxLen _ _ _ _ HS.out) ?c1).mono ?_; (case c1 => exact laid_bytes s _ _ _ _); rw [HUc.out]; rintro e wu ⟨rfl, hbu⟩; have HB := Lib.hid (hop (HB.out.alloc HB.out.size _).drew hbu); clear hbu) | (go_at_call 26; refine (unpairs_text s _ _ _ hs2 (grownCap_ge _ _ _ _) (grownCap_le_maxLen _ _ _ _ HS.out) ?c1).mono ?_; (case c1 => exact laid_bytes s _ _ _ _); rw [HUp.out]; rintro e wu ⟨rfl, hbu⟩; have HB := Lib.hid (hop (HB.out.alloc HB.out.size _).drew hbu); clear hbu) | (go_at_call 27; refine (unnums_text s _ _ _ hs2 (grownCap_ge _ _ _ _) (grownCap_le_maxLen _ _ _ _ HS.out) ?c1).mono ?_; (case c1 => exact laid_bytes s _ _ _ _); rw [HUn.out]; rintro e wu ⟨An, cn, rfl, hon, hbu⟩; have HIn := Lib.hid (RowC.own iCells_length (by decide) hon).2; clear hon; have HB := Lib.hid (hop (HB.out.alloc HB.out.size _).drew hbu); clear hbu) | (go_at_call 22; refine (nums_walk xn HFn.out.2.2 An _ cn _ rfl (by have := HFn.out.2.1; omega) HIn.out).mono ?_; rw [HFn.out.1]; rintro e wt ⟨At, nt, ct, rfl, hbt, hbel⟩; have hcvNums := string_of_buf hbt; rw [txt_data] at hcvNums; have HB := Lib.hid (hop HB.out hbel); clear hbt hbel))
  go_ret
  exact ⟨rfl, HB.out⟩
set_option maxRecDepth 4000 in
set_option maxHeartbeats 4000000 in
theorem only_rc0p0n (s : ByteArray) (hs : s.size ≤ maxLen) (hs2 : s.size ≤ 2000) (w : World) (xr : List (List V)) (hur : whole rRow s.data.toList = some xr) (huc : whole rCol s.data.toList = none) (hup : whole rPair s.data.toList = none) (xn : List Int) (hun : whole rInt s.data.toList = some xn) :
    Calls Try.prog 7 #[.string s] w fun e w' => e = .returned (.bool true) ∧ Below w.heap.size w w' := by
  have hd2 : decide ((2000 : Int) < (s.size : Int)) = false := decide_eq_false (by omega)
  have HS := Lib.hid hs
  have HL := Lib.hid (show s.data.toList.length ≤ 4096 by rw [← size_eq]; omega)
  have HUr := Lib.hid hur
  have HUc := Lib.hid huc
  have HUp := Lib.hid hup
  have HUn := Lib.hid hun
  have HFn := Lib.hid (only_nums HUn.out HL.out)
  have hcv := fun W => run_bytes_of_string (P := Try.prog) W 9 27 5 s Try.underlying9 Try.underlying27 Try.underlying5
  clear hs hur huc hup hun
  go_enter Try.func7, Try.ntmps7
  go_wp2_with (first | (go_at_call 9; refine (alive_any _).mono ?_; rintro e w1 ⟨rfl, hb1⟩; have HB := Lib.hid hb1; clear hb1) | (go_at_call 24; refine (unrows_text s _ _ _ hs2 (grownCap_ge _ _ _ _) (grownCap_le_maxLen _ _ _ _ HS.out) ?c1).mono ?_; (case c1 => exact laid_bytes s _ _ _ _); rw [HUr.out]; rintro e wu ⟨rs, Ar, cr, hrs, rfl, hor, hosr, hbu⟩; have HFr := Lib.hid (only_rows HUr.out hrs HL.out); have HIr := Lib.hid (rows_in HFr.out.2.2 hor hosr); clear hrs hor hosr; have HB := Lib.hid (hop (HB.out.alloc HB.out.size _).drew hbu); clear hbu) | (go_at_call 15; refine (rows_walk rs Ar _ cr _ rfl HFr.out.2.1 HIr.out).mono ?_; rw [HFr.out.1]; rintro e wt ⟨At, nt, ct, rfl, hbt, hbel⟩; have hcvRows := string_of_buf hbt; rw [txt_data] at hcvRows; have HB := Lib.hid (hop HB.out hbel); clear hbt hbel) | (go_at_call 25; refine (uncols_text s _ _ _ hs2 (grownCap_ge _ _ _ _) (grownCap_le_maxLen _ _ _ _ HS.out) ?c1).mono ?_; (case c1 => exact laid_bytes s _ _ _ _); rw [HUc.out]; rintro e wu ⟨rfl, hbu⟩; have HB := Lib.hid (hop (HB.out.alloc HB.out.size _).drew hbu); clear hbu) | (go_at_call 26; refine (unpairs_text s _ _ _ hs2 (grownCap_ge _ _ _ _) (grownCap_le_maxLen _ _ _ _ HS.out) ?c1).mono ?_; (case c1 => exact laid_bytes s _ _ _ _); rw [HUp.out]; rintro e wu ⟨rfl, hbu⟩; have HB := Lib.hid (hop (HB.out.alloc HB.out.size _).drew hbu); clear hbu) | (go_at_call 27; refine (unnums_text s _ _ _ hs2 (grownCap_ge _ _ _ _) (grownCap_le_maxLen _ _ _ _ HS.out) ?c1).mono ?_; (case c1 => exact laid_bytes s _ _ _ _); rw [HUn.out]; rintro e wu ⟨An, cn, rfl, hon, hbu⟩; have HIn := Lib.hid (RowC.own iCells_length (by decide) hon).2; clear hon; have HB := Lib.hid (hop (HB.out.alloc HB.out.size _).drew hbu); clear hbu) | (go_at_call 22; refine (nums_walk xn HFn.out.2.2 An _ cn _ rfl (by have := HFn.out.2.1; omega) HIn.out).mono ?_; rw [HFn.out.1]; rintro e wt ⟨At, nt, ct, rfl, hbt, hbel⟩; have hcvNums := string_of_buf hbt; rw [txt_data] at hcvNums; have HB := Lib.hid (hop HB.out hbel); clear hbt hbel))
  go_ret
  exact ⟨rfl, HB.out⟩
set_option maxRecDepth 4000 in
set_option maxHeartbeats 4000000 in
theorem only_r0cp0n (s : ByteArray) (hs : s.size ≤ maxLen) (hs2 : s.size ≤ 2000) (w : World) (hur : whole rRow s.data.toList = none) (xc : List Co) (huc : whole rCol s.data.toList = some xc) (hup : whole rPair s.data.toList = none) (xn : List Int) (hun : whole rInt s.data.toList = some xn) :
    Calls Try.prog 7 #[.string s] w fun e w' => e = .returned (.bool true) ∧ Below w.heap.size w w' := by
  have hd2 : decide ((2000 : Int) < (s.size : Int)) = false := decide_eq_false (by omega)
  have HS := Lib.hid hs
  have HL := Lib.hid (show s.data.toList.length ≤ 4096 by rw [← size_eq]; omega)
  have HUr := Lib.hid hur
  have HUc := Lib.hid huc
  have HUp := Lib.hid hup
  have HUn := Lib.hid hun
  have HFc := Lib.hid (only_cols HUc.out HL.out)
  have HFn := Lib.hid (only_nums HUn.out HL.out)
  have hcv := fun W => run_bytes_of_string (P := Try.prog) W 9 27 5 s Try.underlying9 Try.underlying27 Try.underlying5
  clear hs hur huc hup hun
  go_enter Try.func7, Try.ntmps7
  go_wp2_with (first | (go_at_call 9; refine (alive_any _).mono ?_; rintro e w1 ⟨rfl, hb1⟩; have HB := Lib.hid hb1; clear hb1) | (go_at_call 24; refine (unrows_text s _ _ _ hs2 (grownCap_ge _ _ _ _) (grownCap_le_maxLen _ _ _ _ HS.out) ?c1).mono ?_; (case c1 => exact laid_bytes s _ _ _ _); rw [HUr.out]; rintro e wu ⟨rfl, hbu⟩; have HB := Lib.hid (hop (HB.out.alloc HB.out.size _).drew hbu); clear hbu) | (go_at_call 25; refine (uncols_text s _ _ _ hs2 (grownCap_ge _ _ _ _) (grownCap_le_maxLen _ _ _ _ HS.out) ?c1).mono ?_; (case c1 => exact laid_bytes s _ _ _ _); rw [HUc.out]; rintro e wu ⟨Ac, cc, rfl, hoc, hbu⟩; have HIc := Lib.hid (RowC.own cCells_length (by decide) hoc).2; clear hoc; have HB := Lib.hid (hop (HB.out.alloc HB.out.size _).drew hbu); clear hbu) | (go_at_call 18; refine (cols_walk xc HFc.out.2.2.1 HFc.out.2.2.2 Ac _ cc _ rfl (by have := HFc.out.2.1; omega) HIc.out).mono ?_; rw [HFc.out.1]; rintro e wt ⟨At, nt, ct, rfl, hbt, hbel⟩; have hcvCols := string_of_buf hbt; rw [txt_data] at hcvCols; have HB := Lib.hid (hop HB.out hbel); clear hbt hbel) | (go_at_call 26; refine (unpairs_text s _ _ _ hs2 (grownCap_ge _ _ _ _) (grownCap_le_maxLen _ _ _ _ HS.out) ?c1).mono ?_; (case c1 => exact laid_bytes s _ _ _ _); rw [HUp.out]; rintro e wu ⟨rfl, hbu⟩; have HB := Lib.hid (hop (HB.out.alloc HB.out.size _).drew hbu); clear hbu) | (go_at_call 27; refine (unnums_text s _ _ _ hs2 (grownCap_ge _ _ _ _) (grownCap_le_maxLen _ _ _ _ HS.out) ?c1).mono ?_; (case c1 => exact laid_bytes s _ _ _ _); rw [HUn.out]; rintro e wu ⟨An, cn, rfl, hon, hbu⟩; have HIn := Lib.hid (RowC.own iCells_length (by decide) hon).2; clear hon; have HB := Lib.hid (hop (HB.out.alloc HB.out.size _).drew hbu); clear hbu) | (go_at_call 22; refine (nums_walk xn HFn.out.2.2 An _ cn _ rfl (by have := HFn.out.2.1; omega) HIn.out).mono ?_; rw [HFn.out.1]; rintro e wt ⟨At, nt, ct, rfl, hbt, hbel⟩; have hcvNums := string_of_buf hbt; rw [txt_data] at hcvNums; have HB := Lib.hid (hop HB.out hbel); clear hbt hbel))
  go_ret
  exact ⟨rfl, HB.out⟩
set_option maxRecDepth 4000 in
set_option maxHeartbeats 4000000 in
theorem only_rcp0n (s : ByteArray) (hs : s.size ≤ maxLen) (hs2 : s.size ≤ 2000) (w : World) (xr : List (List V)) (hur : whole rRow s.data.toList = some xr) (xc : List Co) (huc : whole rCol s.data.toList = some xc) (hup : whole rPair s.data.toList = none) (xn : List Int) (hun : whole rInt s.data.toList = some xn) :
    Calls Try.prog 7 #[.string s] w fun e w' => e = .returned (.bool true) ∧ Below w.heap.size w w' := by
  have hd2 : decide ((2000 : Int) < (s.size : Int)) = false := decide_eq_false (by omega)
  have HS := Lib.hid hs
  have HL := Lib.hid (show s.data.toList.length ≤ 4096 by rw [← size_eq]; omega)
  have HUr := Lib.hid hur
  have HUc := Lib.hid huc
  have HUp := Lib.hid hup
  have HUn := Lib.hid hun
  have HFc := Lib.hid (only_cols HUc.out HL.out)
  have HFn := Lib.hid (only_nums HUn.out HL.out)
  have hcv := fun W => run_bytes_of_string (P := Try.prog) W 9 27 5 s Try.underlying9 Try.underlying27 Try.underlying5
  clear hs hur huc hup hun
  go_enter Try.func7, Try.ntmps7
  go_wp2_with (first | (go_at_call 9; refine (alive_any _).mono ?_; rintro e w1 ⟨rfl, hb1⟩; have HB := Lib.hid hb1; clear hb1) | (go_at_call 24; refine (unrows_text s _ _ _ hs2 (grownCap_ge _ _ _ _) (grownCap_le_maxLen _ _ _ _ HS.out) ?c1).mono ?_; (case c1 => exact laid_bytes s _ _ _ _); rw [HUr.out]; rintro e wu ⟨rs, Ar, cr, hrs, rfl, hor, hosr, hbu⟩; have HFr := Lib.hid (only_rows HUr.out hrs HL.out); have HIr := Lib.hid (rows_in HFr.out.2.2 hor hosr); clear hrs hor hosr; have HB := Lib.hid (hop (HB.out.alloc HB.out.size _).drew hbu); clear hbu) | (go_at_call 15; refine (rows_walk rs Ar _ cr _ rfl HFr.out.2.1 HIr.out).mono ?_; rw [HFr.out.1]; rintro e wt ⟨At, nt, ct, rfl, hbt, hbel⟩; have hcvRows := string_of_buf hbt; rw [txt_data] at hcvRows; have HB := Lib.hid (hop HB.out hbel); clear hbt hbel) | (go_at_call 25; refine (uncols_text s _ _ _ hs2 (grownCap_ge _ _ _ _) (grownCap_le_maxLen _ _ _ _ HS.out) ?c1).mono ?_; (case c1 => exact laid_bytes s _ _ _ _); rw [HUc.out]; rintro e wu ⟨Ac, cc, rfl, hoc, hbu⟩; have HIc := Lib.hid (RowC.own cCells_length (by decide) hoc).2; clear hoc; have HB := Lib.hid (hop (HB.out.alloc HB.out.size _).drew hbu); clear hbu) | (go_at_call 18; refine (cols_walk xc HFc.out.2.2.1 HFc.out.2.2.2 Ac _ cc _ rfl (by have := HFc.out.2.1; omega) HIc.out).mono ?_; rw [HFc.out.1]; rintro e wt ⟨At, nt, ct, rfl, hbt, hbel⟩; have hcvCols := string_of_buf hbt; rw [txt_data] at hcvCols; have HB := Lib.hid (hop HB.out hbel); clear hbt hbel) | (go_at_call 26; refine (unpairs_text s _ _ _ hs2 (grownCap_ge _ _ _ _) (grownCap_le_maxLen _ _ _ _ HS.out) ?c1).mono ?_; (case c1 => exact laid_bytes s _ _ _ _); rw [HUp.out]; rintro e wu ⟨rfl, hbu⟩; have HB := Lib.hid (hop (HB.out.alloc HB.out.size _).drew hbu); clear hbu) | (go_at_call 27; refine (unnums_text s _ _ _ hs2 (grownCap_ge _ _ _ _) (grownCap_le_maxLen _ _ _ _ HS.out) ?c1).mono ?_; (case c1 => exact laid_bytes s _ _ _ _); rw [HUn.out]; rintro e wu ⟨An, cn, rfl, hon, hbu⟩; have HIn := Lib.hid (RowC.own iCells_length (by decide) hon).2; clear hon; have HB := Lib.hid (hop (HB.out.alloc HB.out.size _).drew hbu); clear hbu) | (go_at_call 22; refine (nums_walk xn HFn.out.2.2 An _ cn _ rfl (by have := HFn.out.2.1; omega) HIn.out).mono ?_; rw [HFn.out.1]; rintro e wt ⟨At, nt, ct, rfl, hbt, hbel⟩; have hcvNums := string_of_buf hbt; rw [txt_data] at hcvNums; have HB := Lib.hid (hop HB.out hbel); clear hbt hbel))
  go_ret
  exact ⟨rfl, HB.out⟩
set_option maxRecDepth 4000 in
set_option maxHeartbeats 4000000 in
theorem only_r0c0pn (s : ByteArray) (hs : s.size ≤ maxLen) (hs2 : s.size ≤ 2000) (w : World) (hur : whole rRow s.data.toList = none) (huc : whole rCol s.data.toList = none) (xp : List Pa) (hup : whole rPair s.data.toList = some xp) (xn : List Int) (hun : whole rInt s.data.toList = some xn) :
    Calls Try.prog 7 #[.string s] w fun e w' => e = .returned (.bool true) ∧ Below w.heap.size w w' := by
  have hd2 : decide ((2000 : Int) < (s.size : Int)) = false := decide_eq_false (by omega)
  have HS := Lib.hid hs
  have HL := Lib.hid (show s.data.toList.length ≤ 4096 by rw [← size_eq]; omega)
  have HUr := Lib.hid hur
  have HUc := Lib.hid huc
  have HUp := Lib.hid hup
  have HUn := Lib.hid hun
  have HFp := Lib.hid (only_pairs HUp.out HL.out)
  have HFn := Lib.hid (only_nums HUn.out HL.out)
  have hcv := fun W => run_bytes_of_string (P := Try.prog) W 9 27 5 s Try.underlying9 Try.underlying27 Try.underlying5
  clear hs hur huc hup hun
  go_enter Try.func7, Try.ntmps7
  go_wp2_with (first | (go_at_call 9; refine (alive_any _).mono ?_; rintro e w1 ⟨rfl, hb1⟩; have HB := Lib.hid hb1; clear hb1) | (go_at_call 24; refine (unrows_text s _ _ _ hs2 (grownCap_ge _ _ _ _) (grownCap_le_maxLen _ _ _ _ HS.out) ?c1).mono ?_; (case c1 => exact laid_bytes s _ _ _ _); rw [HUr.out]; rintro e wu ⟨rfl, hbu⟩; have HB := Lib.hid (hop (HB.out.alloc HB.out.size _).drew hbu); clear hbu) | (go_at_call 25; refine (uncols_text s _ _ _ hs2 (grownCap_ge _ _ _ _) (grownCap_le_maxLen _ _ _ _ HS.out) ?c1).mono ?_; (case c1 => exact laid_bytes s _ _ _ _); rw [HUc.out]; rintro e wu ⟨rfl, hbu⟩; have HB := Lib.hid (hop (HB.out.alloc HB.out.size _).drew hbu); clear hbu) | (go_at_call 26; refine (unpairs_text s _ _ _ hs2 (grownCap_ge _ _ _ _) (grownCap_le_maxLen _ _ _ _ HS.out) ?c1).mono ?_; (case c1 => exact laid_bytes s _ _ _ _); rw [HUp.out]; rintro e wu ⟨Ap, cp, rfl, hop_, hbu⟩; have HIp := Lib.hid (RowC.own pCells_length (by decide) hop_).2; clear hop_; have HB := Lib.hid (hop (HB.out.alloc HB.out.size _).drew hbu); clear hbu) | (go_at_call 20; refine (pairs_walk xp HFp.out.2.2.1 HFp.out.2.2.2 Ap _ cp _ rfl (by have := HFp.out.2.1; omega) HIp.out).mono ?_; rw [HFp.out.1]; rintro e wt ⟨At, nt, ct, rfl, hbt, hbel⟩; have hcvPairs := string_of_buf hbt; rw [txt_data] at hcvPairs; have HB := Lib.hid (hop HB.out hbel); clear hbt hbel) | (go_at_call 27; refine (unnums_text s _ _ _ hs2 (grownCap_ge _ _ _ _) (grownCap_le_maxLen _ _ _ _ HS.out) ?c1).mono ?_; (case c1 => exact laid_bytes s _ _ _ _); rw [HUn.out]; rintro e wu ⟨An, cn, rfl, hon, hbu⟩; have HIn := Lib.hid (RowC.own iCells_length (by decide) hon).2; clear hon; have HB := Lib.hid (hop (HB.out.alloc HB.out.size _).drew hbu); clear hbu) | (go_at_call 22; refine (nums_walk xn HFn.out.2.2 An _ cn _ rfl (by have := HFn.out.2.1; omega) HIn.out).mono ?_; rw [HFn.out.1]; rintro e wt ⟨At, nt, ct, rfl, hbt, hbel⟩; have hcvNums := string_of_buf hbt; rw [txt_data] at hcvNums; have HB := Lib.hid (hop HB.out hbel); clear hbt hbel))
  go_ret
  exact ⟨rfl, HB.out⟩
set_option maxRecDepth 4000 in
set_option maxHeartbeats 4000000 in
theorem only_rc0pn (s : ByteArray) (hs : s.size ≤ maxLen) (hs2 : s.size ≤ 2000) (w : World) (xr : List (List V)) (hur : whole rRow s.data.toList = some xr) (huc : whole rCol s.data.toList = none) (xp : List Pa) (hup : whole rPair s.data.toList = some xp) (xn : List Int) (hun : whole rInt s.data.toList = some xn) :
    Calls Try.prog 7 #[.string s] w fun e w' => e = .returned (.bool true) ∧ Below w.heap.size w w' := by
  have hd2 : decide ((2000 : Int) < (s.size : Int)) = false := decide_eq_false (by omega)
  have HS := Lib.hid hs
  have HL := Lib.hid (show s.data.toList.length ≤ 4096 by rw [← size_eq]; omega)
  have HUr := Lib.hid hur
  have HUc := Lib.hid huc
  have HUp := Lib.hid hup
  have HUn := Lib.hid hun
  have HFp := Lib.hid (only_pairs HUp.out HL.out)
  have HFn := Lib.hid (only_nums HUn.out HL.out)
  have hcv := fun W => run_bytes_of_string (P := Try.prog) W 9 27 5 s Try.underlying9 Try.underlying27 Try.underlying5
  clear hs hur huc hup hun
  go_enter Try.func7, Try.ntmps7
  go_wp2_with (first | (go_at_call 9; refine (alive_any _).mono ?_; rintro e w1 ⟨rfl, hb1⟩; have HB := Lib.hid hb1; clear hb1) | (go_at_call 24; refine (unrows_text s _ _ _ hs2 (grownCap_ge _ _ _ _) (grownCap_le_maxLen _ _ _ _ HS.out) ?c1).mono ?_; (case c1 => exact laid_bytes s _ _ _ _); rw [HUr.out]; rintro e wu ⟨rs, Ar, cr, hrs, rfl, hor, hosr, hbu⟩; have HFr := Lib.hid (only_rows HUr.out hrs HL.out); have HIr := Lib.hid (rows_in HFr.out.2.2 hor hosr); clear hrs hor hosr; have HB := Lib.hid (hop (HB.out.alloc HB.out.size _).drew hbu); clear hbu) | (go_at_call 15; refine (rows_walk rs Ar _ cr _ rfl HFr.out.2.1 HIr.out).mono ?_; rw [HFr.out.1]; rintro e wt ⟨At, nt, ct, rfl, hbt, hbel⟩; have hcvRows := string_of_buf hbt; rw [txt_data] at hcvRows; have HB := Lib.hid (hop HB.out hbel); clear hbt hbel) | (go_at_call 25; refine (uncols_text s _ _ _ hs2 (grownCap_ge _ _ _ _) (grownCap_le_maxLen _ _ _ _ HS.out) ?c1).mono ?_; (case c1 => exact laid_bytes s _ _ _ _); rw [HUc.out]; rintro e wu ⟨rfl, hbu⟩; have HB := Lib.hid (hop (HB.out.alloc HB.out.size _).drew hbu); clear hbu) | (go_at_call 26; refine (unpairs_text s _ _ _ hs2 (grownCap_ge _ _ _ _) (grownCap_le_maxLen _ _ _ _ HS.out) ?c1).mono ?_; (case c1 => exact laid_bytes s _ _ _ _); rw [HUp.out]; rintro e wu ⟨Ap, cp, rfl, hop_, hbu⟩; have HIp := Lib.hid (RowC.own pCells_length (by decide) hop_).2; clear hop_; have HB := Lib.hid (hop (HB.out.alloc HB.out.size _).drew hbu); clear hbu) | (go_at_call 20; refine (pairs_walk xp HFp.out.2.2.1 HFp.out.2.2.2 Ap _ cp _ rfl (by have := HFp.out.2.1; omega) HIp.out).mono ?_; rw [HFp.out.1]; rintro e wt ⟨At, nt, ct, rfl, hbt, hbel⟩; have hcvPairs := string_of_buf hbt; rw [txt_data] at hcvPairs; have HB := Lib.hid (hop HB.out hbel); clear hbt hbel) | (go_at_call 27; refine (unnums_text s _ _ _ hs2 (grownCap_ge _ _ _ _) (grownCap_le_maxLen _ _ _ _ HS.out) ?c1).mono ?_; (case c1 => exact laid_bytes s _ _ _ _); rw [HUn.out]; rintro e wu ⟨An, cn, rfl, hon, hbu⟩; have HIn := Lib.hid (RowC.own iCells_length (by decide) hon).2; clear hon; have HB := Lib.hid (hop (HB.out.alloc HB.out.size _).drew hbu); clear hbu) | (go_at_call 22; refine (nums_walk xn HFn.out.2.2 An _ cn _ rfl (by have := HFn.out.2.1; omega) HIn.out).mono ?_; rw [HFn.out.1]; rintro e wt ⟨At, nt, ct, rfl, hbt, hbel⟩; have hcvNums := string_of_buf hbt; rw [txt_data] at hcvNums; have HB := Lib.hid (hop HB.out hbel); clear hbt hbel))
  go_ret
  exact ⟨rfl, HB.out⟩
set_option maxRecDepth 4000 in
set_option maxHeartbeats 4000000 in
theorem only_r0cpn (s : ByteArray) (hs : s.size ≤ maxLen) (hs2 : s.size ≤ 2000) (w : World) (hur : whole rRow s.data.toList = none) (xc : List Co) (huc : whole rCol s.data.toList = some xc) (xp : List Pa) (hup : whole rPair s.data.toList = some xp) (xn : List Int) (hun : whole rInt s.data.toList = some xn) :
    Calls Try.prog 7 #[.string s] w fun e w' => e = .returned (.bool true) ∧ Below w.heap.size w w' := by
  have hd2 : decide ((2000 : Int) < (s.size : Int)) = false := decide_eq_false (by omega)
  have HS := Lib.hid hs
  have HL := Lib.hid (show s.data.toList.length ≤ 4096 by rw [← size_eq]; omega)
  have HUr := Lib.hid hur
  have HUc := Lib.hid huc
  have HUp := Lib.hid hup
  have HUn := Lib.hid hun
  have HFc := Lib.hid (only_cols HUc.out HL.out)
  have HFp := Lib.hid (only_pairs HUp.out HL.out)
  have HFn := Lib.hid (only_nums HUn.out HL.out)
  have hcv := fun W => run_bytes_of_string (P := Try.prog) W 9 27 5 s Try.underlying9 Try.underlying27 Try.underlying5
  clear hs hur huc hup hun
  go_enter Try.func7, Try.ntmps7
  go_wp2_with (first | (go_at_call 9; refine (alive_any _).mono ?_; rintro e w1 ⟨rfl, hb1⟩; have HB := Lib.hid hb1; clear hb1) | (go_at_call 24; refine (unrows_text s _ _ _ hs2 (grownCap_ge _ _ _ _) (grownCap_le_maxLen _ _ _ _ HS.out) ?c1).mono ?_; (case c1 => exact laid_bytes s _ _ _ _); rw [HUr.out]; rintro e wu ⟨rfl, hbu⟩; have HB := Lib.hid (hop (HB.out.alloc HB.out.size _).drew hbu); clear hbu) | (go_at_call 25; refine (uncols_text s _ _ _ hs2 (grownCap_ge _ _ _ _) (grownCap_le_maxLen _ _ _ _ HS.out) ?c1).mono ?_; (case c1 => exact laid_bytes s _ _ _ _); rw [HUc.out]; rintro e wu ⟨Ac, cc, rfl, hoc, hbu⟩; have HIc := Lib.hid (RowC.own cCells_length (by decide) hoc).2; clear hoc; have HB := Lib.hid (hop (HB.out.alloc HB.out.size _).drew hbu); clear hbu) | (go_at_call 18; refine (cols_walk xc HFc.out.2.2.1 HFc.out.2.2.2 Ac _ cc _ rfl (by have := HFc.out.2.1; omega) HIc.out).mono ?_; rw [HFc.out.1]; rintro e wt ⟨At, nt, ct, rfl, hbt, hbel⟩; have hcvCols := string_of_buf hbt; rw [txt_data] at hcvCols; have HB := Lib.hid (hop HB.out hbel); clear hbt hbel) | (go_at_call 26; refine (unpairs_text s _ _ _ hs2 (grownCap_ge _ _ _ _) (grownCap_le_maxLen _ _ _ _ HS.out) ?c1).mono ?_; (case c1 => exact laid_bytes s _ _ _ _); rw [HUp.out]; rintro e wu ⟨Ap, cp, rfl, hop_, hbu⟩; have HIp := Lib.hid (RowC.own pCells_length (by decide) hop_).2; clear hop_; have HB := Lib.hid (hop (HB.out.alloc HB.out.size _).drew hbu); clear hbu) | (go_at_call 20; refine (pairs_walk xp HFp.out.2.2.1 HFp.out.2.2.2 Ap _ cp _ rfl (by have := HFp.out.2.1; omega) HIp.out).mono ?_; rw [HFp.out.1]; rintro e wt ⟨At, nt, ct, rfl, hbt, hbel⟩; have hcvPairs := string_of_buf hbt; rw [txt_data] at hcvPairs; have HB := Lib.hid (hop HB.out hbel); clear hbt hbel) | (go_at_call 27; refine (unnums_text s _ _ _ hs2 (grownCap_ge _ _ _ _) (grownCap_le_maxLen _ _ _ _ HS.out) ?c1).mono ?_; (case c1 => exact laid_bytes s _ _ _ _); rw [HUn.out]; rintro e wu ⟨An, cn, rfl, hon, hbu⟩; have HIn := Lib.hid (RowC.own iCells_length (by decide) hon).2; clear hon; have HB := Lib.hid (hop (HB.out.alloc HB.out.size _).drew hbu); clear hbu) | (go_at_call 22; refine (nums_walk xn HFn.out.2.2 An _ cn _ rfl (by have := HFn.out.2.1; omega) HIn.out).mono ?_; rw [HFn.out.1]; rintro e wt ⟨At, nt, ct, rfl, hbt, hbel⟩; have hcvNums := string_of_buf hbt; rw [txt_data] at hcvNums; have HB := Lib.hid (hop HB.out hbel); clear hbt hbel))
  go_ret
  exact ⟨rfl, HB.out⟩
set_option maxRecDepth 4000 in
set_option maxHeartbeats 4000000 in
theorem only_rcpn (s : ByteArray) (hs : s.size ≤ maxLen) (hs2 : s.size ≤ 2000) (w : World) (xr : List (List V)) (hur : whole rRow s.data.toList = some xr) (xc : List Co) (huc : whole rCol s.data.toList = some xc) (xp : List Pa) (hup : whole rPair s.data.toList = some xp) (xn : List Int) (hun : whole rInt s.data.toList = some xn) :
    Calls Try.prog 7 #[.string s] w fun e w' => e = .returned (.bool true) ∧ Below w.heap.size w w' := by
  have hd2 : decide ((2000 : Int) < (s.size : Int)) = false := decide_eq_false (by omega)
  have HS := Lib.hid hs
  have HL := Lib.hid (show s.data.toList.length ≤ 4096 by rw [← size_eq]; omega)
  have HUr := Lib.hid hur
  have HUc := Lib.hid huc
  have HUp := Lib.hid hup
  have HUn := Lib.hid hun
  have HFc := Lib.hid (only_cols HUc.out HL.out)
  have HFp := Lib.hid (only_pairs HUp.out HL.out)
  have HFn := Lib.hid (only_nums HUn.out HL.out)
  have hcv := fun W => run_bytes_of_string (P := Try.prog) W 9 27 5 s Try.underlying9 Try.underlying27 Try.underlying5
  clear hs hur huc hup hun
  go_enter Try.func7, Try.ntmps7
  go_wp2_with (first | (go_at_call 9; refine (alive_any _).mono ?_; rintro e w1 ⟨rfl, hb1⟩; have HB := Lib.hid hb1; clear hb1) | (go_at_call 24; refine (unrows_text s _ _ _ hs2 (grownCap_ge _ _ _ _) (grownCap_le_maxLen _ _ _ _ HS.out) ?c1).mono ?_; (case c1 => exact laid_bytes s _ _ _ _); rw [HUr.out]; rintro e wu ⟨rs, Ar, cr, hrs, rfl, hor, hosr, hbu⟩; have HFr := Lib.hid (only_rows HUr.out hrs HL.out); have HIr := Lib.hid (rows_in HFr.out.2.2 hor hosr); clear hrs hor hosr; have HB := Lib.hid (hop (HB.out.alloc HB.out.size _).drew hbu); clear hbu) | (go_at_call 15; refine (rows_walk rs Ar _ cr _ rfl HFr.out.2.1 HIr.out).mono ?_; rw [HFr.out.1]; rintro e wt ⟨At, nt, ct, rfl, hbt, hbel⟩; have hcvRows := string_of_buf hbt; rw [txt_data] at hcvRows; have HB := Lib.hid (hop HB.out hbel); clear hbt hbel) | (go_at_call 25; refine (uncols_text s _ _ _ hs2 (grownCap_ge _ _ _ _) (grownCap_le_maxLen _ _ _ _ HS.out) ?c1).mono ?_; (case c1 => exact laid_bytes s _ _ _ _); rw [HUc.out]; rintro e wu ⟨Ac, cc, rfl, hoc, hbu⟩; have HIc := Lib.hid (RowC.own cCells_length (by decide) hoc).2; clear hoc; have HB := Lib.hid (hop (HB.out.alloc HB.out.size _).drew hbu); clear hbu) | (go_at_call 18; refine (cols_walk xc HFc.out.2.2.1 HFc.out.2.2.2 Ac _ cc _ rfl (by have := HFc.out.2.1; omega) HIc.out).mono ?_; rw [HFc.out.1]; rintro e wt ⟨At, nt, ct, rfl, hbt, hbel⟩; have hcvCols := string_of_buf hbt; rw [txt_data] at hcvCols; have HB := Lib.hid (hop HB.out hbel); clear hbt hbel) | (go_at_call 26; refine (unpairs_text s _ _ _ hs2 (grownCap_ge _ _ _ _) (grownCap_le_maxLen _ _ _ _ HS.out) ?c1).mono ?_; (case c1 => exact laid_bytes s _ _ _ _); rw [HUp.out]; rintro e wu ⟨Ap, cp, rfl, hop_, hbu⟩; have HIp := Lib.hid (RowC.own pCells_length (by decide) hop_).2; clear hop_; have HB := Lib.hid (hop (HB.out.alloc HB.out.size _).drew hbu); clear hbu) | (go_at_call 20; refine (pairs_walk xp HFp.out.2.2.1 HFp.out.2.2.2 Ap _ cp _ rfl (by have := HFp.out.2.1; omega) HIp.out).mono ?_; rw [HFp.out.1]; rintro e wt ⟨At, nt, ct, rfl, hbt, hbel⟩; have hcvPairs := string_of_buf hbt; rw [txt_data] at hcvPairs; have HB := Lib.hid (hop HB.out hbel); clear hbt hbel) | (go_at_call 27; refine (unnums_text s _ _ _ hs2 (grownCap_ge _ _ _ _) (grownCap_le_maxLen _ _ _ _ HS.out) ?c1).mono ?_; (case c1 => exact laid_bytes s _ _ _ _); rw [HUn.out]; rintro e wu ⟨An, cn, rfl, hon, hbu⟩; have HIn := Lib.hid (RowC.own iCells_length (by decide) hon).2; clear hon; have HB := Lib.hid (hop (HB.out.alloc HB.out.size _).drew hbu); clear hbu) | (go_at_call 22; refine (nums_walk xn HFn.out.2.2 An _ cn _ rfl (by have := HFn.out.2.1; omega) HIn.out).mono ?_; rw [HFn.out.1]; rintro e wt ⟨At, nt, ct, rfl, hbt, hbel⟩; have hcvNums := string_of_buf hbt; rw [txt_data] at hcvNums; have HB := Lib.hid (hop HB.out hbel); clear hbt hbel))
  go_ret
  exact ⟨rfl, HB.out⟩
theorem codeonly_walk (s : ByteArray) (hs : s.size ≤ maxLen) (w : World) :
    Calls Try.prog 7 #[.string s] w fun e w' => e = .returned (.bool true) ∧ Below w.heap.size w w' := by
  by_cases h2 : 2000 < s.size
  · have hs1 : s.size ≤ 9223372036854775807 := by unfold maxLen at hs; omega
    clear hs
    go_enter Try.func7, Try.ntmps7
    go_wp2_with (go_at_call 9; refine (alive_any _).mono ?_; rintro e w1 ⟨rfl, hb1⟩; have HB := Lib.hid hb1; clear hb1)
    go_ret
    exact ⟨rfl, HB.out⟩
  · rcases hur : whole rRow s.data.toList with _ | xr
    · rcases huc : whole rCol s.data.toList with _ | xc
      · rcases hup : whole rPair s.data.toList with _ | xp
        · rcases hun : whole rInt s.data.toList with _ | xn
          · exact only_r0c0p0n0 s hs (by omega) w hur huc hup hun
          · exact only_r0c0p0n s hs (by omega) w hur huc hup xn hun
        · rcases hun : whole rInt s.data.toList with _ | xn
          · exact only_r0c0pn0 s hs (by omega) w hur huc xp hup hun
          · exact only_r0c0pn s hs (by omega) w hur huc xp hup xn hun
      · rcases hup : whole rPair s.data.toList with _ | xp
        · rcases hun : whole rInt s.data.toList with _ | xn
          · exact only_r0cp0n0 s hs (by omega) w hur xc huc hup hun
          · exact only_r0cp0n s hs (by omega) w hur xc huc hup xn hun
        · rcases hun : whole rInt s.data.toList with _ | xn
          · exact only_r0cpn0 s hs (by omega) w hur xc huc xp hup hun
          · exact only_r0cpn s hs (by omega) w hur xc huc xp hup xn hun
    · rcases huc : whole rCol s.data.toList with _ | xc
      · rcases hup : whole rPair s.data.toList with _ | xp
        · rcases hun : whole rInt s.data.toList with _ | xn
          · exact only_rc0p0n0 s hs (by omega) w xr hur huc hup hun
          · exact only_rc0p0n s hs (by omega) w xr hur huc hup xn hun
        · rcases hun : whole rInt s.data.toList with _ | xn
          · exact only_rc0pn0 s hs (by omega) w xr hur huc xp hup hun
          · exact only_rc0pn s hs (by omega) w xr hur huc xp hup xn hun
      · rcases hup : whole rPair s.data.toList with _ | xp
        · rcases hun : whole rInt s.data.toList with _ | xn
          · exact only_rcp0n0 s hs (by omega) w xr hur xc huc hup hun
          · exact only_rcp0n s hs (by omega) w xr hur xc huc hup xn hun
        · rcases hun : whole rInt s.data.toList with _ | xn
          · exact only_rcpn0 s hs (by omega) w xr hur xc huc xp hup hun
          · exact only_rcpn s hs (by omega) w xr hur xc huc xp hup xn hun
end Go.Proofs.Ytkpajmgbiepmbaa
