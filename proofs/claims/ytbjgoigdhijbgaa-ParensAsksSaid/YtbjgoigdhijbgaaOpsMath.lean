/-
  Levels of operators, plainly.
-/
import Derived.Test.YtbjgoigdhijbgaaAid
namespace Go.Proofs.Ytbjgoigdhijbgaa
open Go.RowKit Go.PlainAid

/-- The operators by their levels, from 0 on. -/
def opTab : List (List (List UInt8)) :=
  [[], [[58, 58]], [[124]], [[61], [33]], [[111, 114, 101, 108, 115, 101]], [[97, 110, 100, 97, 108, 115, 111]],
   [[61, 61], [47, 61], [61, 60], [60], [62, 61], [62], [61, 58, 61], [61, 47, 61]], [[43, 43], [45, 45]],
   [[43], [45], [98, 111, 114], [98, 120, 111, 114], [98, 115, 108], [98, 115, 114], [111, 114], [120, 111, 114]],
   [[42], [47], [100, 105, 118], [114, 101, 109], [98, 97, 110, 100], [97, 110, 100]]]
def bnr : List (List (List UInt8)) → Nat → List UInt8 → Nat
  | [], _, _ => 0
  | r :: t, i, x => if r.contains x then i else bnr t (i + 1) x
/-- Binary. -/
def bn (x : List UInt8) : Nat := bnr opTab 0 x
def sdt : List Nat := [0, 2, 1, 2, 2, 2, 3, 2, 1, 1]
/-- Side. -/
def sd (x : List UInt8) : Nat := sdt.getD (bn x) 0
/-- Prefix. -/
def pf (x : List UInt8) : Nat := if x == [43] || x == [45] || x == [110, 111, 116] || x == [98, 110, 111, 116] then 10 else 0
/-- Left, Right. -/
def lf (x : List UInt8) : Nat := if decide (0 < bn x) && decide (sd x ≠ 1) then bn x + 1 else bn x
def rt (x : List UInt8) : Nat := if decide (0 < bn x) && decide (sd x ≠ 2) then bn x + 1 else bn x
theorem bnr_le : ∀ (T : List (List (List UInt8))) (i : Nat) (x : List UInt8), bnr T i x = 0 ∨ (i ≤ bnr T i x ∧ bnr T i x < i + T.length)
  | [], _, _ => .inl rfl
  | r :: t, i, x => by
    simp only [bnr]
    split
    · exact .inr ⟨Nat.le_refl _, by simp⟩
    · rcases bnr_le t (i + 1) x with h | ⟨h1, h2⟩
      · exact .inl h
      · exact .inr ⟨by omega, by simp only [List.length_cons]; omega⟩
theorem bn_le (x : List UInt8) : bn x ≤ 9 := by
  rcases bnr_le opTab 0 x with h | ⟨-, h⟩
  · unfold bn; omega
  · have : opTab.length = 10 := rfl
    unfold bn; omega
theorem bnr_drop {i : Nat} {r : List (List UInt8)} (h : opTab[i]? = some r) (j : Nat) (x : List UInt8) : bnr (opTab.drop i) j x = if r.contains x then j else bnr (opTab.drop (i + 1)) (j + 1) x := by
  have hi : i < opTab.length := (List.getElem?_eq_some_iff.1 h).1
  have h2 : opTab[i] = r := (List.getElem?_eq_some_iff.1 h).2
  rw [List.drop_eq_getElem_cons hi, h2]
  rfl
theorem sd_at (x : List UInt8) : sdt[bn x]? = some (sd x) := by
  have h := bn_le x
  unfold sd
  rw [List.getD_eq_getElem?_getD, List.getElem?_eq_getElem (show bn x < sdt.length from by show bn x < 10; omega)]
  rfl
/-- What an operator's level tells of its side. -/
theorem sd_of (x : List UInt8) (h : 1 ≤ bn x) : sd x = 1 ∨ sd x = 2 ∨ sd x = 3 := by
  have h9 := bn_le x
  have key : ∀ n : Fin 10, 1 ≤ n.val → sdt.getD n.val 0 = 1 ∨ sdt.getD n.val 0 = 2 ∨ sdt.getD n.val 0 = 3 := by decide
  exact key ⟨bn x, by omega⟩ h
theorem sd_zero (x : List UInt8) (h : bn x = 0) : sd x = 0 := by unfold sd; rw [h]; rfl
theorem if_own {n m c R : Nat} {k : Int} (hk : (c : Int) = k) (hR : R = if decide (m ≠ c) = true then n + 1 else n) (h : ((m : Int) != k) = false) : n = R := by
  have h2 : (m : Int) = k := by simpa using h
  have h3 : m = c := by omega
  rw [hR, h3]
  simp
theorem if_more {n m c R : Nat} {k : Int} (hk : (c : Int) = k) (hR : R = if decide (m ≠ c) = true then n + 1 else n) (h : ((m : Int) != k) = true) : (n : Int) + 1 = (R : Int) := by
  have h2 : (m : Int) ≠ k := by simpa using h
  rw [hR, if_pos (decide_eq_true (by omega))]
  rfl
/-- The document's table lies there: ten rows from block g on, then their row. -/
def TbAt (W : World) (g : Nat) : Prop :=
  ∀ i r, opTab[i]? = some r → W.cell? ⟨g + 10, i, none⟩ = some (.slice (some ⟨g + i, 0, none⟩) r.length r.length) ∧ ∀ k x, r[k]? = some x → W.cell? ⟨g + i, k, none⟩ = some (.string ⟨x.toArray⟩)
end Go.Proofs.Ytbjgoigdhijbgaa
