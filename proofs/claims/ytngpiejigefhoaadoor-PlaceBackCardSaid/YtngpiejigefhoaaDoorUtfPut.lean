/-
  The contract of package utf's Put: a code point's bytes are the language's own, and nothing that was there is written; what is no code point has none.
-/
import Derived.Test.YtngpiejigefhoaaDoorUtfWalks
import Derived.Laws.IdiomStrings
namespace Go.Proofs.YtngpiejigefhoaaDoor
open Go.RowKit Go.PlainAid

theorem u8_or0 (x : Int) (h0 : 0 ≤ x) (h1 : x < 256) : bits .or .u8 0 x = x := by
  have := bits_join .u8 8 (by decide) wraps_u8 8 0 x (by decide) (by decide) (by decide) h0 (by omega) (by omega)
  rw [this]; omega
theorem pt_valid {c : Int} (h : isPt c = true) : Utf8.valid c = true := by
  have := of_decide_eq_true h
  unfold Utf8.valid
  simp only [Bool.or_eq_true, Bool.and_eq_true, decide_eq_true_eq]
  omega
theorem enc1 {c : Int} (h : isPt c = true) (h1 : c < 128) : Utf8.encode c = ⟨[UInt8.ofNat c.toNat].toArray⟩ := by
  unfold Utf8.encode
  simp only [pt_valid h, if_true]
  rw [if_pos (by omega)]
theorem enc2 {c : Int} (h : isPt c = true) (h0 : 128 ≤ c) (h1 : c < 2048) : Utf8.encode c = ⟨[UInt8.ofNat (192 + c.toNat / 64), UInt8.ofNat (128 + c.toNat % 64)].toArray⟩ := by
  unfold Utf8.encode
  simp only [pt_valid h, if_true]
  rw [if_neg (by omega), if_pos (by omega)]
theorem enc3 {c : Int} (h : isPt c = true) (h0 : 2048 ≤ c) (h1 : c < 65536) : Utf8.encode c = ⟨[UInt8.ofNat (224 + c.toNat / 4096), UInt8.ofNat (128 + c.toNat / 64 % 64), UInt8.ofNat (128 + c.toNat % 64)].toArray⟩ := by
  unfold Utf8.encode
  simp only [pt_valid h, if_true]
  rw [if_neg (by omega), if_neg (by omega), if_pos (by omega)]
theorem enc4 {c : Int} (h : isPt c = true) (h0 : 65536 ≤ c) : Utf8.encode c = ⟨[UInt8.ofNat (240 + c.toNat / 262144), UInt8.ofNat (128 + c.toNat / 4096 % 64), UInt8.ofNat (128 + c.toNat / 64 % 64), UInt8.ofNat (128 + c.toNat % 64)].toArray⟩ := by
  unfold Utf8.encode
  simp only [pt_valid h, if_true]
  rw [if_neg (by omega), if_neg (by omega), if_neg (by omega)]
theorem pt_bd {c : Int} (h : isPt c = true) : 0 ≤ c ∧ c < 1114112 := by
  have := of_decide_eq_true h
  omega
theorem byte_is {x : Int} {n : Nat} (h : x = n) (hn : n < 256) : x = ((UInt8.ofNat n).toNat : Int) := by
  rw [h, UInt8.toNat_ofNat']
  omega

/-- The bytes of a code point; none of what is none. -/
def pu (c : Int) : ByteArray := if isPt c = true then Utf8.encode c else ⟨#[]⟩

end Go.Proofs.YtngpiejigefhoaaDoor
