/-
  Package lit's Escape.
-/
import Derived.Test.YtjenofochgcjmaaDoorLitInts
import Derived.Test.YtjenofochgcjmaaDoorMath
import Derived.Test.YtjenofochgcjmaaDoorWordWalks
import Derived.Test.YtjenofochgcjmaaDoorUtfs
/- The contracts of package lit's control, hexadecimal, meant, Escape, and of HasPrefix, CutPrefix where they ask. -/
namespace Go.Proofs.YtjenofochgcjmaaDoor
open Go.RowKit Go.PlainAid

theorem first_eq {s : ByteArray} (c : UInt8) (h : 0 < s.size) : ((s.extract 0 1).toList == [c]) = decide (bt s 0 = (c.toNat : Int)) := by
  have hl : (s.extract 0 1).toList = [s[0]'h] := by
    rw [ByteArray.toList_eq, Lib.extract_data]
    have h0 : 0 < s.data.toList.length := by rw [Array.length_toList]; exact h
    rw [show s.data.toList = s.data.toList[0] :: s.data.toList.drop 1 by simpa using (List.drop_eq_getElem_cons h0)]
    rfl
  rw [hl, ← get_bt s 0 h]
  by_cases e : s[0]'h = c
  · rw [e]; simp
  · rw [decide_eq_false (fun h' => e (UInt8.toNat_inj.1 (by omega)))]
    simp [e]
theorem hp_any (s : ByteArray) (c : UInt8) (hs : s.size ≤ maxLen) (w : World) :
    Calls Tryd.prog 26 #[.string s, .string { data := #[c] }] w fun e w' => e = .returned (.bool (decide (0 < s.size) && decide (bt s 0 = (c.toNat : Int)))) ∧ w = w' := by
  unfold maxLen at hs
  have hz : (({ data := #[c] } : ByteArray).size : Int) = 1 := rfl
  have ht : ({ data := #[c] } : ByteArray).toList = [c] := by rw [ByteArray.toList_eq]
  by_cases h : 0 < s.size
  · have HF := Lib.hid (first_eq c h)
    rw [decide_eq_true h]
    have h1 : (1 : Int) ≤ (s.size : Int) := by omega
    go_enter Tryd.func26, Tryd.ntmps26
    go_wp2
    go_ret
    exact ⟨by simp only [Array.getD]; rw [Bool.true_and, ← HF.out]; rfl, rfl⟩
  · rw [decide_eq_false h]
    have h1 : ¬ (1 : Int) ≤ (s.size : Int) := by omega
    go_enter Tryd.func26, Tryd.ntmps26
    go_wp2
    go_ret
    exact ⟨rfl, rfl⟩
theorem hp_is (s : ByteArray) (c : UInt8) (v : Bool) (hc : 0 < c.toNat) (hs : s.size ≤ maxLen) (hv : v = decide (bt s 0 = (c.toNat : Int))) (w : World) :
    Calls Tryd.prog 26 #[.string s, .string { data := #[c] }] w fun e w' => e = .returned (.bool v) ∧ w = w' := by
  have h := hp_any s c hs w
  have e : (decide (0 < s.size) && decide (bt s 0 = (c.toNat : Int))) = v := by
    rw [hv]
    by_cases hz : 0 < s.size
    · rw [decide_eq_true hz]; rfl
    · rw [decide_eq_false hz, bt_end s (by omega), decide_eq_false (by omega)]; rfl
  rw [e] at h
  exact h
theorem two_eq {s : ByteArray} (h : 1 < s.size) (h0 : bt s 0 = 120) : ((s.extract 0 2).toList == [120, 123]) = decide (bt s 1 = 123) := by
  have hl : (s.extract 0 2).toList = [s[0]'(by omega), s[1]'h] := by
    rw [ByteArray.toList_eq, Lib.extract_data]
    have l0 : 0 < s.data.toList.length := by rw [Array.length_toList]; show 0 < s.size; omega
    have l1 : 1 < s.data.toList.length := by rw [Array.length_toList]; exact h
    rw [show s.data.toList = s.data.toList[0] :: s.data.toList[1] :: s.data.toList.drop 2 by
      have a := List.drop_eq_getElem_cons l0
      have b := List.drop_eq_getElem_cons l1
      rw [← b]; simpa using a]
    rfl
  have e0 : s[0]'(by omega) = 120 := UInt8.toNat_inj.1 (by have := get_bt s 0 (by omega); rw [h0] at this; have : (120 : UInt8).toNat = 120 := rfl; omega)
  rw [hl, e0, ← get_bt s 1 h]
  by_cases e : s[1]'h = 123
  · rw [e]; rfl
  · rw [decide_eq_false (fun h' => e (UInt8.toNat_inj.1 (by have : (123 : UInt8).toNat = 123 := rfl; omega)))]
    simp [e]
theorem beg_ne {c : Int} (h : ¬ (97 ≤ c ∧ c ≤ 122)) : beg c ≠ 1 := by
  unfold beg
  rw [if_neg h]
  repeat' split
  all_goals omega
end Go.Proofs.YtjenofochgcjmaaDoor
/- The contracts of package lit's meant and Escape. -/
namespace Go.Proofs.YtjenofochgcjmaaDoor
open Go.RowKit Go.PlainAid

theorem mk_pair {p : Int × Nat} {a : Int} {b : Nat} (h : p = (a, b)) : p.1 = a ∧ p.2 = b := by rw [h]; exact ⟨rfl, rfl⟩
theorem pu_size (c : Int) : ((pu c).toList == []) = !isPt c := by
  unfold pu
  cases h : isPt c
  · rw [if_neg (by decide), ByteArray.toList_eq]; rfl
  · rw [if_pos rfl]
    have h1 := (reads_enc h).1
    have h2 := lenOf_pos c
    exact ne_empty (by omega)
end Go.Proofs.YtjenofochgcjmaaDoor
/- The contracts of package lit's Char and between. -/
namespace Go.Proofs.YtjenofochgcjmaaDoor
open Go.RowKit Go.PlainAid

/-- What a char means, and what is told of what is none. -/
def chr (s : ByteArray) : Int × Int :=
  if bt s 0 = 36 then
    (if (esc s 1).1 = -1 then
      (if s.size ≤ 1 ∨ nc s 1 ≤ 32 ∨ nc s 1 = 92 ∨ nc s 1 = 127 then (0, 8) else if 1 + nl s 1 = s.size then (nc s 1, 0) else (0, 8))
    else if 1 + (esc s 1).2 = s.size then ((esc s 1).1, 0) else (0, 8))
  else (0, 8)
def HpAt (s : ByteArray) (v : Bool) : Prop := ∀ W, Calls Tryd.prog 26 #[.string s, .string { data := #[36] }] W fun e w' => e = .returned (.bool v) ∧ W = w'
/-- Does a text stand between two of one of the quotes? -/
def btw (s : ByteArray) : Bool := decide (2 ≤ s.size) && (bt s 0 == bt s (s.size - 1)) && (bt s 0 == 34 || bt s 0 == 39)
end Go.Proofs.YtjenofochgcjmaaDoor
