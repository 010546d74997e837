/-
  Digits, their form and value, over the list of a text's bytes: for texts that are known, and for texts that are built.
-/
import Derived.Test.YtnejkdaiopjchaaDoorLitMath
import Derived.Test.YtnejkdaiopjchaaDoorLitCut
import Derived.Test.YtnejkdaiopjchaaDoorLitAny
import Derived.Test.YtnejkdaiopjchaaDoorLitFloat
namespace Go.Proofs.YtnejkdaiopjchaaDoor
open Go.RowKit Go.PlainAid

def fmL (b : Int) : Bool → List UInt8 → Bool
  | h, [] => h
  | h, x :: l => if (x.toNat : Int) = 95 ∧ h = true then fmL b false l else if dg (x.toNat : Int) < b then fmL b true l else false
def vnL (b : Nat) : Nat → List UInt8 → Nat
  | v, [] => v
  | v, x :: l => if (x.toNat : Int) = 95 then vnL b v l else vnL b (v * b + (dg (x.toNat : Int)).toNat) l
theorem drop_bt {s : ByteArray} {k : Nat} (h : k < s.size) : ∃ x : UInt8, s.data.toList.drop k = x :: s.data.toList.drop (k + 1) ∧ bt s k = (x.toNat : Int) := by
  have hl : k < s.data.toList.length := by rw [Array.length_toList]; exact h
  exact ⟨s[k]'h, by rw [List.drop_eq_getElem_cons hl]; rfl, (get_bt s k h).symm⟩
theorem drop_all {s : ByteArray} {k : Nat} (h : ¬ k < s.size) : s.data.toList.drop k = [] := List.drop_of_length_le (by rw [Array.length_toList]; show s.size ≤ k; omega)
theorem fm_list (s : ByteArray) (b : Int) : ∀ m k h, s.size - k ≤ m → fm s b s.size k h = fmL b h (s.data.toList.drop k) := by
  intro m
  induction m with
  | zero => intro k h hm; rw [fm_end (by omega), drop_all (by omega)]; rfl
  | succ m ih =>
    intro k h hm
    by_cases hk : k < s.size
    · obtain ⟨x, hx, hb⟩ := drop_bt hk
      rw [hx, fm, dif_pos hk, hb, ih (k + 1) false (by omega), ih (k + 1) true (by omega)]
      rfl
    · rw [fm_end hk, drop_all hk]; rfl
theorem vn_list (s : ByteArray) (b : Nat) : ∀ m k v, s.size - k ≤ m → vn s b s.size k v = vnL b v (s.data.toList.drop k) := by
  intro m
  induction m with
  | zero => intro k v hm; rw [vn_end (by omega), drop_all (by omega)]; rfl
  | succ m ih =>
    intro k v hm
    by_cases hk : k < s.size
    · obtain ⟨x, hx, hb⟩ := drop_bt hk
      rw [hx, vn, dif_pos hk, hb, ih (k + 1) v (by omega), ih (k + 1) _ (by omega)]
      rfl
    · rw [vn_end hk, drop_all hk]; rfl
/-- Digits of a base from byte k on. -/
theorem nm_list (s : ByteArray) (b k : Nat) : nm s b s.size k = if fmL b false (s.data.toList.drop k) = true then (if vnL b 0 (s.data.toList.drop k) < 18446744073709551616 then (((vnL b 0 (s.data.toList.drop k) : Nat) : Int), (0 : Int)) else (0, 6)) else (0, 8) := by
  unfold nm
  rw [fm_list s b _ k false (Nat.le_refl _), vn_list s b _ k 0 (Nat.le_refl _)]
theorem nm_of {s : ByteArray} {b k : Nat} (hf : fmL b false (s.data.toList.drop k) = true) (hv : vnL b 0 (s.data.toList.drop k) < 18446744073709551616) : nm s b s.size k = (((vnL b 0 (s.data.toList.drop k) : Nat) : Int), (0 : Int)) := by
  rw [nm_list, if_pos hf, if_pos hv]
theorem ix_hit {s : ByteArray} {c : UInt8} {p : Nat} (h : Lib.indexByte s.data.toList c = p) : ix s (c.toNat : Int) 0 = p ∧ p < s.size := by
  rw [ixr_list] at h
  unfold ixr at h
  split at h
  · rename_i h1; constructor <;> omega
  · omega
theorem ix_miss {s : ByteArray} {c : UInt8} (h : Lib.indexByte s.data.toList c = -1) : ¬ ix s (c.toNat : Int) 0 < s.size := by
  rw [ixr_list] at h
  unfold ixr at h
  split at h <;> omega
theorem ixe_hit {s : ByteArray} {p : Nat} (h : Lib.indexAny s.data.toList [101, 69] = p) : ixe s 0 = p ∧ p < s.size := by
  rw [ixa_list] at h
  unfold ixa at h
  split at h
  · rename_i h1; constructor <;> omega
  · omega
theorem ixe_miss {s : ByteArray} (h : Lib.indexAny s.data.toList [101, 69] = -1) : ¬ ixe s 0 < s.size := by
  rw [ixa_list] at h
  unfold ixa at h
  split at h <;> omega
/-- An integer with a base of so many digits ahead. -/
theorem igr_based {s : ByteArray} {p B : Nat} (hp : Lib.indexByte s.data.toList 35 = p) (h2 : p ≤ 2) (hB : nm s 10 p 0 = ((B : Int), 0)) (b2 : 2 ≤ B) (b36 : B ≤ 36) : igr s = nm s B s.size (p + 1) := by
  obtain ⟨e, hlt⟩ := ix_hit hp
  have e' : ix s 35 0 = p := e
  unfold igr
  rw [e', hB]
  rw [if_pos hlt, if_pos ⟨rfl, h2, by show (2 : Int) ≤ (B : Int); omega, by show (B : Int) ≤ 36; omega⟩]
  rfl
theorem igr_plain {s : ByteArray} (hp : Lib.indexByte s.data.toList 35 = -1) : igr s = nm s 10 s.size 0 := by
  have := ix_miss hp
  have h' : ¬ ix s 35 0 < s.size := this
  unfold igr
  rw [if_neg h']
end Go.Proofs.YtnejkdaiopjchaaDoor
