/-
  THE PROGRAM's documents: what may be by itself.
-/
import Derived.Test.YtbjgoigdhijbgaaDoorRefDocD
import Derived.Test.YtbjgoigdhijbgaaDoorProg
import Derived.Shelf.Strings.Search3
import Derived.Lib.IndexLaws
set_option linter.all false
namespace Go.Proofs.YtbjgoigdhijbgaaDoor
open Go.RowKit Go.PlainAid

def conRen : Go.Shelf.Ren :=
  ⟨fun
    | 143 => 64
    | 144 => 57
    | 217 => 73
    | 219 => 71
    | 224 => 75
    | 225 => 74
    | 266 => 77
    | 267 => 76
    | 314 => 78
    | n => n,
   fun
    | 3 => 3
    | 4 => 4
    | 5 => 5
    | 9 => 9
    | 46 => 27
    | 51 => 101
    | 146 => 102
    | n => n,
   fun
    | 1 => 3
    | n => n⟩
theorem conLays : Lays.n144 Tryd.prog conRen := {
  mixed := by kernel_rfl
  f143 := Tryd.func64
  f144 := Tryd.func57
  f217 := Tryd.func73
  f219 := Tryd.func71
  f224 := Tryd.func75
  f225 := Tryd.func74
  f266 := Tryd.func77
  f267 := Tryd.func76
  f314 := Tryd.func78
  t3 := Tryd.underlying3
  a3 := Tryd.isAgg3
  z3 := Tryd.sizeOf3
  v3 := Tryd.zeroValue3
  t4 := Tryd.underlying4
  a4 := Tryd.isAgg4
  z4 := Tryd.sizeOf4
  v4 := Tryd.zeroValue4
  t5 := Tryd.underlying5
  a5 := Tryd.isAgg5
  z5 := Tryd.sizeOf5
  v5 := Tryd.zeroValue5
  t9 := Tryd.underlying9
  a9 := Tryd.isAgg9
  z9 := Tryd.sizeOf9
  v9 := Tryd.zeroValue9
  t46 := Tryd.underlying27
  a46 := Tryd.isAgg27
  z46 := Tryd.sizeOf27
  v46 := Tryd.zeroValue27
  t51 := Tryd.underlying101
  a51 := Tryd.isAgg101
  z51 := Tryd.sizeOf101
  v51 := Tryd.zeroValue101
  t146 := Tryd.underlying102
  a146 := Tryd.isAgg102
  z146 := Tryd.sizeOf102
  v146 := Tryd.zeroValue102
  g1 := by kernel_rfl
}
theorem index_has (l : List UInt8) (c : UInt8) : decide (0 ≤ Lib.indexByte l c) = l.contains c := by
  induction l with
  | nil => rfl
  | cons b l ih =>
    have hg := Lib.indexByte_ge l c
    unfold Lib.indexByte
    rw [List.contains_cons]
    by_cases hb : (b == c) = true
    · rw [if_pos hb]
      have : (c == b) = true := by rw [beq_iff_eq] at hb ⊢; exact hb.symm
      rw [this]; rfl
    · have hb' : (c == b) = false := beq_false_of_ne (fun e => hb (by rw [e]; exact beq_self_eq_true _))
      rw [if_neg hb, hb', Bool.false_or, ← ih]
      by_cases hm : (Lib.indexByte l c == -1) = true
      · rw [if_pos hm]
        have : Lib.indexByte l c = -1 := by simpa using hm
        rw [this]
      · rw [if_neg hm]
        have : Lib.indexByte l c ≠ -1 := by simpa using hm
        exact decide_eq_decide.2 (by omega)
theorem has_nl (t : ByteArray) (w : World) : Calls Tryd.prog 57 #[.string t, .string ⟨#[10]⟩] w fun e w' => e = .returned (.bool (t.data.toList.contains 10)) ∧ w' = w := by
  have h := Any.strings_Contains_one conLays t 10 w
  rw [index_has] at h
  exact h
set_option maxRecDepth 100000 in
set_option maxHeartbeats 4000000 in
theorem alone_text {n : Int} {t : ByteArray} {a : Option Addr} {N cap g o : Nat} {W : World} (hN : N ≤ 1048576) (c0 : W.cell? ⟨g, o, none⟩ = some (.int .i64 1)) (c1 : W.cell? ⟨g, o + 1, none⟩ = some (.int .i64 n)) (c2 : W.cell? ⟨g, o + 2, none⟩ = some (.string t)) (c3 : W.cell? ⟨g, o + 3, none⟩ = some (.slice a N cap)) :
    Calls Tryd.prog 50 #[.pointer (some ⟨g, o, none⟩)] W fun e w' => e = .returned (.bool (n == 0 && decide (N = 0) && !t.data.toList.contains 10)) ∧ w' = W := by
  have eN : ((N : Int) == 0) = decide (N = 0) := by by_cases h : N = 0 <;> simp [h] <;> omega
  have HC := Lib.hid (has_nl t W)
  obtain ⟨R, hR⟩ : ∃ R, R = t.data.toList.contains 10 := ⟨_, rfl⟩
  rw [← hR] at HC ⊢
  clear hR
  cases h0 : (n == 0)
  · rw [Bool.false_and, Bool.false_and]
    go_enter Tryd.func50, Tryd.ntmps50
    go_wp2_with fail
    go_ret
    exact ⟨rfl, rfl⟩
  · cases h1 : decide (N = 0)
    · rw [h1] at eN
      rw [Bool.and_false, Bool.false_and]
      go_enter Tryd.func50, Tryd.ntmps50
      go_wp2_with fail
      go_ret
      exact ⟨rfl, rfl⟩
    · rw [h1] at eN
      rw [Bool.true_and, Bool.true_and]
      go_enter Tryd.func50, Tryd.ntmps50
      go_wp2_with fail
      refine HC.out.mono ?_
      rintro e w1 ⟨rfl, rfl⟩
      go_wp2_with fail
      go_ret
      exact ⟨rfl, rfl⟩
set_option maxRecDepth 100000 in
set_option maxHeartbeats 4000000 in
theorem alone_leaf2 {n : Int} {t : ByteArray} {a : Option Addr} {N cap g o : Nat} {W : World} (hN : N ≤ 1048576) (c0 : W.cell? ⟨g, o, none⟩ = some (.int .i64 2)) (c1 : W.cell? ⟨g, o + 1, none⟩ = some (.int .i64 n)) (c2 : W.cell? ⟨g, o + 2, none⟩ = some (.string t)) (c3 : W.cell? ⟨g, o + 3, none⟩ = some (.slice a N cap)) :
    Calls Tryd.prog 50 #[.pointer (some ⟨g, o, none⟩)] W fun e w' => e = .returned (.bool (n == 0 && decide (N = 0) && t.toList == [])) ∧ w' = W := by
  have eN : ((N : Int) == 0) = decide (N = 0) := by by_cases h : N = 0 <;> simp [h] <;> omega
  cases h0 : (n == 0)
  · rw [Bool.false_and, Bool.false_and]
    go_enter Tryd.func50, Tryd.ntmps50
    go_wp2_with fail
    go_ret
    exact ⟨rfl, rfl⟩
  · cases h1 : decide (N = 0)
    · rw [h1] at eN
      rw [Bool.and_false, Bool.false_and]
      go_enter Tryd.func50, Tryd.ntmps50
      go_wp2_with fail
      go_ret
      exact ⟨rfl, rfl⟩
    · rw [h1] at eN
      rw [Bool.true_and, Bool.true_and]
      cases ht : (t.toList == [])
      · go_enter Tryd.func50, Tryd.ntmps50
        go_wp2_with fail
        go_ret
        exact ⟨rfl, rfl⟩
      · go_enter Tryd.func50, Tryd.ntmps50
        go_wp2_with fail
        go_ret
        exact ⟨rfl, rfl⟩
set_option maxRecDepth 100000 in
set_option maxHeartbeats 4000000 in
theorem alone_leaf3 {n : Int} {t : ByteArray} {a : Option Addr} {N cap g o : Nat} {W : World} (hN : N ≤ 1048576) (c0 : W.cell? ⟨g, o, none⟩ = some (.int .i64 3)) (c1 : W.cell? ⟨g, o + 1, none⟩ = some (.int .i64 n)) (c2 : W.cell? ⟨g, o + 2, none⟩ = some (.string t)) (c3 : W.cell? ⟨g, o + 3, none⟩ = some (.slice a N cap)) :
    Calls Tryd.prog 50 #[.pointer (some ⟨g, o, none⟩)] W fun e w' => e = .returned (.bool (n == 0 && decide (N = 0) && t.toList == [])) ∧ w' = W := by
  have eN : ((N : Int) == 0) = decide (N = 0) := by by_cases h : N = 0 <;> simp [h] <;> omega
  cases h0 : (n == 0)
  · rw [Bool.false_and, Bool.false_and]
    go_enter Tryd.func50, Tryd.ntmps50
    go_wp2_with fail
    go_ret
    exact ⟨rfl, rfl⟩
  · cases h1 : decide (N = 0)
    · rw [h1] at eN
      rw [Bool.and_false, Bool.false_and]
      go_enter Tryd.func50, Tryd.ntmps50
      go_wp2_with fail
      go_ret
      exact ⟨rfl, rfl⟩
    · rw [h1] at eN
      rw [Bool.true_and, Bool.true_and]
      cases ht : (t.toList == [])
      · go_enter Tryd.func50, Tryd.ntmps50
        go_wp2_with fail
        go_ret
        exact ⟨rfl, rfl⟩
      · go_enter Tryd.func50, Tryd.ntmps50
        go_wp2_with fail
        go_ret
        exact ⟨rfl, rfl⟩
set_option maxRecDepth 100000 in
set_option maxHeartbeats 4000000 in
theorem alone_leaf4 {n : Int} {t : ByteArray} {a : Option Addr} {N cap g o : Nat} {W : World} (hN : N ≤ 1048576) (c0 : W.cell? ⟨g, o, none⟩ = some (.int .i64 4)) (c1 : W.cell? ⟨g, o + 1, none⟩ = some (.int .i64 n)) (c2 : W.cell? ⟨g, o + 2, none⟩ = some (.string t)) (c3 : W.cell? ⟨g, o + 3, none⟩ = some (.slice a N cap)) :
    Calls Tryd.prog 50 #[.pointer (some ⟨g, o, none⟩)] W fun e w' => e = .returned (.bool (n == 0 && decide (N = 0) && t.toList == [])) ∧ w' = W := by
  have eN : ((N : Int) == 0) = decide (N = 0) := by by_cases h : N = 0 <;> simp [h] <;> omega
  cases h0 : (n == 0)
  · rw [Bool.false_and, Bool.false_and]
    go_enter Tryd.func50, Tryd.ntmps50
    go_wp2_with fail
    go_ret
    exact ⟨rfl, rfl⟩
  · cases h1 : decide (N = 0)
    · rw [h1] at eN
      rw [Bool.and_false, Bool.false_and]
      go_enter Tryd.func50, Tryd.ntmps50
      go_wp2_with fail
      go_ret
      exact ⟨rfl, rfl⟩
    · rw [h1] at eN
      rw [Bool.true_and, Bool.true_and]
      cases ht : (t.toList == [])
      · go_enter Tryd.func50, Tryd.ntmps50
        go_wp2_with fail
        go_ret
        exact ⟨rfl, rfl⟩
      · go_enter Tryd.func50, Tryd.ntmps50
        go_wp2_with fail
        go_ret
        exact ⟨rfl, rfl⟩
set_option maxRecDepth 100000 in
set_option maxHeartbeats 4000000 in
theorem alone_cat {n : Int} {t : ByteArray} {a : Option Addr} {N cap g o : Nat} {W : World} (c0 : W.cell? ⟨g, o, none⟩ = some (.int .i64 5)) (c1 : W.cell? ⟨g, o + 1, none⟩ = some (.int .i64 n)) (c2 : W.cell? ⟨g, o + 2, none⟩ = some (.string t)) (c3 : W.cell? ⟨g, o + 3, none⟩ = some (.slice a N cap)) :
    Calls Tryd.prog 50 #[.pointer (some ⟨g, o, none⟩)] W fun e w' => e = .returned (.bool (n == 0 && t.toList == [])) ∧ w' = W := by
  cases h0 : (n == 0)
  · rw [Bool.false_and]
    go_enter Tryd.func50, Tryd.ntmps50
    go_wp2_with fail
    go_ret
    exact ⟨rfl, rfl⟩
  · rw [Bool.true_and]
    cases ht : (t.toList == [])
    · go_enter Tryd.func50, Tryd.ntmps50
      go_wp2_with fail
      go_ret
      exact ⟨rfl, rfl⟩
    · go_enter Tryd.func50, Tryd.ntmps50
      go_wp2_with fail
      go_ret
      exact ⟨rfl, rfl⟩
set_option maxRecDepth 100000 in
set_option maxHeartbeats 4000000 in
theorem alone_nest {n : Int} {t : ByteArray} {a : Option Addr} {N cap g o : Nat} {W : World} (c0 : W.cell? ⟨g, o, none⟩ = some (.int .i64 6)) (c1 : W.cell? ⟨g, o + 1, none⟩ = some (.int .i64 n)) (c2 : W.cell? ⟨g, o + 2, none⟩ = some (.string t)) (c3 : W.cell? ⟨g, o + 3, none⟩ = some (.slice a N cap)) :
    Calls Tryd.prog 50 #[.pointer (some ⟨g, o, none⟩)] W fun e w' => e = .returned (.bool (decide (0 ≤ n) && decide (n ≤ 1000) && t.toList == [])) ∧ w' = W := by
  cases h0 : decide (0 ≤ n)
  · rw [Bool.false_and, Bool.false_and]
    go_enter Tryd.func50, Tryd.ntmps50
    go_wp2_with fail
    go_ret
    exact ⟨rfl, rfl⟩
  · cases h1 : decide (n ≤ 1000)
    · rw [Bool.and_false, Bool.false_and]
      go_enter Tryd.func50, Tryd.ntmps50
      go_wp2_with fail
      go_ret
      exact ⟨rfl, rfl⟩
    · rw [Bool.true_and, Bool.true_and]
      cases ht : (t.toList == [])
      · go_enter Tryd.func50, Tryd.ntmps50
        go_wp2_with fail
        go_ret
        exact ⟨rfl, rfl⟩
      · go_enter Tryd.func50, Tryd.ntmps50
        go_wp2_with fail
        go_ret
        exact ⟨rfl, rfl⟩
set_option maxRecDepth 100000 in
set_option maxHeartbeats 4000000 in
theorem alone_grp {n : Int} {t : ByteArray} {a : Option Addr} {N cap g o : Nat} {W : World} (c0 : W.cell? ⟨g, o, none⟩ = some (.int .i64 7)) (c1 : W.cell? ⟨g, o + 1, none⟩ = some (.int .i64 n)) (c2 : W.cell? ⟨g, o + 2, none⟩ = some (.string t)) (c3 : W.cell? ⟨g, o + 3, none⟩ = some (.slice a N cap)) :
    Calls Tryd.prog 50 #[.pointer (some ⟨g, o, none⟩)] W fun e w' => e = .returned (.bool ((n == 0 || n == 1) && t.toList == [])) ∧ w' = W := by
  cases h0 : (n == 0)
  · cases h1 : (n == 1)
    · rw [Bool.or_false, Bool.false_and]
      go_enter Tryd.func50, Tryd.ntmps50
      go_wp2_with fail
      go_ret
      exact ⟨rfl, rfl⟩
    · rw [Bool.or_true, Bool.true_and]
      cases ht : (t.toList == [])
      · go_enter Tryd.func50, Tryd.ntmps50
        go_wp2_with fail
        go_ret
        exact ⟨rfl, rfl⟩
      · go_enter Tryd.func50, Tryd.ntmps50
        go_wp2_with fail
        go_ret
        exact ⟨rfl, rfl⟩
  · rw [Bool.true_or, Bool.true_and]
    cases ht : (t.toList == [])
    · go_enter Tryd.func50, Tryd.ntmps50
      go_wp2_with fail
      go_ret
      exact ⟨rfl, rfl⟩
    · go_enter Tryd.func50, Tryd.ntmps50
      go_wp2_with fail
      go_ret
      exact ⟨rfl, rfl⟩
set_option maxRecDepth 100000 in
set_option maxHeartbeats 4000000 in
theorem alone_kind {k n : Int} {t : ByteArray} {a : Option Addr} {N cap g o : Nat} {W : World} (h1 : (k == 1) = false) (h2 : (k == 2) = false) (h3 : (k == 3) = false) (h4 : (k == 4) = false) (h5 : (k == 5) = false) (h6 : (k == 6) = false) (h7 : (k == 7) = false) (c0 : W.cell? ⟨g, o, none⟩ = some (.int .i64 k)) (c1 : W.cell? ⟨g, o + 1, none⟩ = some (.int .i64 n)) (c2 : W.cell? ⟨g, o + 2, none⟩ = some (.string t)) (c3 : W.cell? ⟨g, o + 3, none⟩ = some (.slice a N cap)) :
    Calls Tryd.prog 50 #[.pointer (some ⟨g, o, none⟩)] W fun e w' => e = .returned (.bool false) ∧ w' = W := by
  go_enter Tryd.func50, Tryd.ntmps50
  go_wp2_with fail
  go_ret
  exact ⟨rfl, rfl⟩
theorem alone_any {k n : Int} {t : ByteArray} {a : Option Addr} {N cap g o : Nat} {W : World} (hN : N ≤ 1048576) (c0 : W.cell? ⟨g, o, none⟩ = some (.int .i64 k)) (c1 : W.cell? ⟨g, o + 1, none⟩ = some (.int .i64 n)) (c2 : W.cell? ⟨g, o + 2, none⟩ = some (.string t)) (c3 : W.cell? ⟨g, o + 3, none⟩ = some (.slice a N cap)) :
    Calls Tryd.prog 50 #[.pointer (some ⟨g, o, none⟩)] W fun e w' => e = .returned (.bool (dal k n t (decide (N = 0)))) ∧ w' = W := by
  unfold dal
  by_cases k1 : k = 1
  · rw [if_pos k1]; subst k1; exact alone_text hN c0 c1 c2 c3
  have g1 : (k == 1) = false := beq_false_of_ne k1
  rw [if_neg k1]
  by_cases k2 : k = 2
  · rw [if_pos (.inl k2)]; subst k2; exact alone_leaf2 hN c0 c1 c2 c3
  by_cases k3 : k = 3
  · rw [if_pos (.inr (.inl k3))]; subst k3; exact alone_leaf3 hN c0 c1 c2 c3
  by_cases k4 : k = 4
  · rw [if_pos (.inr (.inr k4))]; subst k4; exact alone_leaf4 hN c0 c1 c2 c3
  rw [if_neg (by rintro (h | h | h) <;> contradiction)]
  by_cases k5 : k = 5
  · rw [if_pos k5]; subst k5; exact alone_cat c0 c1 c2 c3
  rw [if_neg k5]
  by_cases k6 : k = 6
  · rw [if_pos k6]; subst k6; exact alone_nest c0 c1 c2 c3
  rw [if_neg k6]
  by_cases k7 : k = 7
  · rw [if_pos k7]; subst k7; exact alone_grp c0 c1 c2 c3
  rw [if_neg k7]
  exact alone_kind g1 (beq_false_of_ne k2) (beq_false_of_ne k3) (beq_false_of_ne k4) (beq_false_of_ne k5) (beq_false_of_ne k6) (beq_false_of_ne k7) c0 c1 c2 c3
end Go.Proofs.YtbjgoigdhijbgaaDoor
