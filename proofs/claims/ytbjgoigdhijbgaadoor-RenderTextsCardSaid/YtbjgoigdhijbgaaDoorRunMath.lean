/-
  Runs of digits, with _ between or not: plain.
-/
import Derived.Test.YtbjgoigdhijbgaaDoorMath
import Derived.Test.YtbjgoigdhijbgaaDoorQuoMath
set_option linter.all false
namespace Go.Proofs.YtbjgoigdhijbgaaDoor
open Go.RowKit Go.PlainAid

/-- What a byte means below a base; -1. -/
def vlr (c b : Int) : Int := if dg c < 36 ∧ dg c < b then dg c else -1
theorem vlr_bd (c b : Int) : -1 ≤ vlr c b ∧ vlr c b < 36 := by
  have := dg_bd c
  unfold vlr
  split <;> omega
theorem vlr_pos {c b : Int} (hb : b ≤ 36) : 0 ≤ vlr c b ↔ dg c < b := by
  have := dg_bd c
  unfold vlr
  constructor
  · intro h
    split at h
    · rename_i h'; exact h'.2
    · omega
  · intro h
    rw [if_pos ⟨by omega, h⟩]
    omega
theorem vlr_is {c b : Int} (hb : b ≤ 36) (h : dg c < b) : vlr c b = dg c := by
  unfold vlr
  rw [if_pos ⟨by omega, h⟩]
/-- May byte i stand in a run that begins at byte a? -/
def okk (s : ByteArray) (b : Int) (a : Nat) (un : Bool) (i : Nat) : Bool :=
  decide (0 ≤ vlr (bt s i) b) || (un && (bt s i == 95) && decide (a < i) && (bt s (i - 1) != 95) && decide (i + 1 < s.size) && decide (0 ≤ vlr (bt s (i + 1)) b))
/-- Where a run ends. -/
def ru (s : ByteArray) (b : Int) (a : Nat) (un : Bool) (i : Nat) : Nat := if _h : i < s.size then (if okk s b a un i = true then ru s b a un (i + 1) else i) else i
termination_by s.size - i
theorem ru_end {s : ByteArray} {b : Int} {a i : Nat} {un : Bool} (h : ¬ i < s.size) : ru s b a un i = i := by rw [ru, dif_neg h]
theorem ru_stop {s : ByteArray} {b : Int} {a i : Nat} {un : Bool} (h : okk s b a un i = false) : ru s b a un i = i := by
  rw [ru]
  split
  · rw [if_neg (by rw [h]; decide)]
  · rfl
theorem ru_go {s : ByteArray} {b : Int} {a i : Nat} {un : Bool} (hi : i < s.size) (h : okk s b a un i = true) : ru s b a un i = ru s b a un (i + 1) := by rw [ru, dif_pos hi, if_pos h]
theorem ru_ge (s : ByteArray) (b : Int) (a : Nat) (un : Bool) : ∀ m i, s.size - i ≤ m → i ≤ ru s b a un i ∧ (i ≤ s.size → ru s b a un i ≤ s.size) := by
  intro m
  induction m with
  | zero => intro i h; rw [ru_end (by omega)]; omega
  | succ m ih =>
    intro i h
    by_cases hi : i < s.size
    · cases ho : okk s b a un i
      · rw [ru_stop ho]; omega
      · rw [ru_go hi ho]
        have := ih (i + 1) (by omega)
        omega
    · rw [ru_end hi]; omega
end Go.Proofs.YtbjgoigdhijbgaaDoor
