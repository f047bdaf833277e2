/- What a seat needs of several texts. -/
import Derived.Test.YtclcabdekeegdaaGreatDecPF
import Derived.Lib.SplitLaws
/- From DecP2. -/
namespace Go.Proofs.YtclcabdekeegdaaGreat
set_option linter.unusedVariables false
def mt : ByteArray := ⟨#[]⟩
def escT (l : List UInt8) : List UInt8 := l.flatMap fun c => if c = 44 ∨ c = 92 then [92, c] else [c]
def tru : List UInt8 := [116, 114, 117, 101]
def fls : List UInt8 := [102, 97, 108, 115, 101]
def nul : List UInt8 := [92, 78]
/-- The field that says v. -/
def wr (v : V) : List UInt8 :=
 if v.k = 1 then Lib.itoa v.n else if v.k = 2 then (if v.n = 1 then tru else fls) else if v.k = 3 then escT v.s.data.toList else nul
def fits (c : C) (v : V) : Bool := decide (chk v = 0) && decide (v.k = 0 ∨ v.k = c.k)
def fitsL : List C → List V → Bool
 | [], [] => true
 | c :: cs, v :: vs => fits c v && fitsL cs vs
 | _, _ => false
theorem fitsL_iff {cs : List C} {vs : List V} (hl : vs.length = cs.length) : fitsL cs vs = true ↔ ∀ i (hi : i < cs.length), fits cs[i] (vs[i]'(by omega)) = true := by
 induction cs generalizing vs with
 | nil => obtain rfl := List.eq_nil_of_length_eq_zero hl; simp [fitsL]
 | cons c cs ih =>
  match vs, hl with
  | v :: vs, hl =>
   unfold fitsL
   rw [Bool.and_eq_true, ih (vs := vs) (by simpa using hl)]
   constructor
   ·rintro ⟨h1, h2⟩ i hi
    cases i with
    | zero => exact h1
    | succ i => exact h2 i (by simpa using hi)
   ·intro h
    exact ⟨h 0 (by simp), fun i hi => h (i + 1) (by simpa using hi)⟩
end Go.Proofs.YtclcabdekeegdaaGreat
