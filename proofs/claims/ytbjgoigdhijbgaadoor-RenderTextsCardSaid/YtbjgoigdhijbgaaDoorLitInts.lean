/-
  Package lit's Integer, and Cut, HasPrefix.
-/
import Derived.Test.YtbjgoigdhijbgaaDoorLitNum
import Derived.Test.YtbjgoigdhijbgaaDoorUtfs
import Derived.Lib.Bytealg
set_option linter.all false
/- The contracts of what package lit asks of package strings: Cut at one byte, HasPrefix, CutPrefix. -/
namespace Go.Proofs.YtbjgoigdhijbgaaDoor
open Go.RowKit Go.PlainAid

theorem ix_list (s : ByteArray) (c : UInt8) : ∀ m k : Nat, s.size - k ≤ m → k ≤ s.size → Lib.indexByte (s.data.toList.drop k) c = if ix s (c.toNat : Int) k < s.size then ((ix s (c.toNat : Int) k - k : Nat) : Int) else -1 := by
  intro m
  induction m with
  | zero =>
    intro k h hk
    have e : ix s (c.toNat : Int) k = s.size := by rw [ix, dif_neg (by omega)]
    rw [e, if_neg (by omega), List.drop_of_length_le (by rw [Array.length_toList]; show s.size ≤ k; omega)]
    rfl
  | succ m ih =>
    intro k h hk
    by_cases hlt : k < s.size
    · have hl : k < s.data.toList.length := by rw [Array.length_toList]; exact hlt
      have gb := get_bt s k hlt
      have gl : s.data.toList[k] = s[k]'hlt := rfl
      rw [List.drop_eq_getElem_cons hl, gl]
      by_cases hc : s[k]'hlt = c
      · have e : ix s (c.toNat : Int) k = k := by rw [ix, dif_pos hlt, if_pos (by rw [← gb, hc])]
        rw [e, if_pos hlt, hc]
        simp [Lib.indexByte]
      · have hne : ¬ bt s k = (c.toNat : Int) := fun h => hc (UInt8.toNat_inj.1 (by omega))
        have e : ix s (c.toNat : Int) k = ix s (c.toNat : Int) (k + 1) := by rw [ix, dif_pos hlt, if_neg hne]
        obtain ⟨i1, i2, -, -⟩ := ix_spec s (c.toNat : Int) (s.size - (k + 1)) (k + 1) (Nat.le_refl _) hlt
        have := ih (k + 1) (by omega) hlt
        rw [e]
        by_cases hi : ix s (c.toNat : Int) (k + 1) < s.size
        · rw [if_pos hi] at this ⊢
          have hne1 : ((((ix s (c.toNat : Int) (k + 1) - (k + 1) : Nat) : Int)) == -1) = false := beq_false_of_ne (by omega)
          simp only [Lib.indexByte, beq_false_of_ne hc, this, hne1]
          simp only [Bool.false_eq_true, if_false]
          omega
        · rw [if_neg hi] at this ⊢
          simp [Lib.indexByte, hc, this]
    · have e : ix s (c.toNat : Int) k = s.size := by rw [ix, dif_neg (by omega)]
      rw [e, if_neg (by omega), List.drop_of_length_le (by rw [Array.length_toList]; show s.size ≤ k; omega)]
      rfl
/-- Where a byte stands first; -1: nowhere. -/
def ixr (s : ByteArray) (c : Int) : Int := if ix s c 0 < s.size then (ix s c 0 : Nat) else -1
theorem ixr_list (s : ByteArray) (c : UInt8) : Lib.indexByte s.data.toList c = ixr s (c.toNat : Int) := by
  have := ix_list s c s.size 0 (by omega) (by omega)
  rw [List.drop_zero] at this
  rw [this]
  rfl
theorem ixr_range (s : ByteArray) (c : Int) : -1 ≤ ixr s c ∧ ixr s c < s.size := by
  unfold ixr
  split <;> omega
set_option maxRecDepth 100000 in
theorem indexByte_any (s : ByteArray) (c : UInt8) (w : World) :
    Calls Tryd.prog 73 #[.string s, .int .u8 (c.toNat : Int)] w fun e w' => e = .returned (.int .i64 (ixr s (c.toNat : Int))) ∧ w = w' := by
  have hc : ((c.toNat : Int)).toNat.toUInt8 = c := by simp
  rw [← ixr_list]
  go_enter Tryd.func73, Tryd.ntmps73
  go_wp2
  rw [run_callFunc_extern Tryd.func77 (by kernel_rfl) (by kernel_rfl) (by kernel_rfl) (e := Extern.BytealgIndexByte.indexByte) (by kernel_rfl), Lib.run_indexByteString, hc]
  simp only [Result.andThen]
  rw [Oper.upon_value]
  go_wp2
  go_ret
  exact ⟨rfl, rfl⟩
theorem ixr_alone {s : ByteArray} {c : UInt8} (h : (([c] : List UInt8) == s.data.toList) = true) : ixr s (c.toNat : Int) = 0 := by
  rw [← ixr_list, ← eq_of_beq h]
  simp [Lib.indexByte]
set_option maxRecDepth 100000 in
theorem index_35 (s : ByteArray) (w : World) :
    Calls Tryd.prog 71 #[.string s, .string { data := #[35] }] w fun e w' => e = .returned (.int .i64 (ixr s 35)) ∧ w = w' := by
  have H := Lib.hid (fun W => indexByte_any s 35 W)
  have g0 : ((({ data := #[35] } : ByteArray)[0]'(by decide)).toNat : Int) = 35 := rfl
  have gc : (((35 : UInt8).toNat : Nat) : Int) = 35 := rfl
  rw [gc] at H
  have HA : Hid ((([35] : List UInt8) == s.toList) = true → ixr s 35 = 0) := fun h => ixr_alone (c := 35) (by rw [ByteArray.toList_eq] at h; exact h)
  obtain ⟨x, hx⟩ : ∃ x, x = ixr s 35 := ⟨_, rfl⟩
  rw [← hx] at H HA ⊢
  clear hx gc
  cases he : (([35] : List UInt8) == s.toList)
  · go_enter Tryd.func71, Tryd.ntmps71
    go_wp2_with fail
    refine (H.out _).mono ?_
    rintro e w' ⟨rfl, rfl⟩
    go_wp2_with fail
    go_ret
    exact ⟨rfl, rfl⟩
  · have HF := Lib.hid (HA.out he)
    go_enter Tryd.func71, Tryd.ntmps71
    go_wp2_with fail
    go_ret
    exact ⟨ret_int HF.out.symm, rfl⟩
set_option maxRecDepth 100000 in
theorem index_46 (s : ByteArray) (w : World) :
    Calls Tryd.prog 71 #[.string s, .string { data := #[46] }] w fun e w' => e = .returned (.int .i64 (ixr s 46)) ∧ w = w' := by
  have H := Lib.hid (fun W => indexByte_any s 46 W)
  have g0 : ((({ data := #[46] } : ByteArray)[0]'(by decide)).toNat : Int) = 46 := rfl
  have gc : (((46 : UInt8).toNat : Nat) : Int) = 46 := rfl
  rw [gc] at H
  have HA : Hid ((([46] : List UInt8) == s.toList) = true → ixr s 46 = 0) := fun h => ixr_alone (c := 46) (by rw [ByteArray.toList_eq] at h; exact h)
  obtain ⟨x, hx⟩ : ∃ x, x = ixr s 46 := ⟨_, rfl⟩
  rw [← hx] at H HA ⊢
  clear hx gc
  cases he : (([46] : List UInt8) == s.toList)
  · go_enter Tryd.func71, Tryd.ntmps71
    go_wp2_with fail
    refine (H.out _).mono ?_
    rintro e w' ⟨rfl, rfl⟩
    go_wp2_with fail
    go_ret
    exact ⟨rfl, rfl⟩
  · have HF := Lib.hid (HA.out he)
    go_enter Tryd.func71, Tryd.ntmps71
    go_wp2_with fail
    go_ret
    exact ⟨ret_int HF.out.symm, rfl⟩
end Go.Proofs.YtbjgoigdhijbgaaDoor
/- The contract of package lit's Integer. -/
namespace Go.Proofs.YtbjgoigdhijbgaaDoor
open Go.RowKit Go.PlainAid

/-- What an integer means, and what is told of what is none. -/
def igr (s : ByteArray) : Int × Int :=
  if ix s 35 0 < s.size then (if (nm s 10 (ix s 35 0) 0).2 = 0 ∧ ix s 35 0 ≤ 2 ∧ 2 ≤ (nm s 10 (ix s 35 0) 0).1 ∧ (nm s 10 (ix s 35 0) 0).1 ≤ 36 then nm s (nm s 10 (ix s 35 0) 0).1.toNat s.size (ix s 35 0 + 1) else (0, 8)) else nm s 10 s.size 0
theorem below_iter (w : World) (s : ByteArray) (p : Nat) : Below w.heap.size w (w.iter s p) := (Below.refl _ _).alloc (Nat.le_refl _) _
theorem nm_bd (s : ByteArray) (b e k : Nat) : 0 ≤ (nm s b e k).1 ∧ (nm s b e k).1 < 18446744073709551616 ∧ 0 ≤ (nm s b e k).2 ∧ (nm s b e k).2 ≤ 8 := by
  unfold nm
  split
  · split <;> (simp only; omega)
  · simp only; omega
theorem pair_eq {a b : Int × Int} (h : a = b) : a.1 = b.1 ∧ a.2 = b.2 := by rw [h]; exact ⟨rfl, rfl⟩
end Go.Proofs.YtbjgoigdhijbgaaDoor
