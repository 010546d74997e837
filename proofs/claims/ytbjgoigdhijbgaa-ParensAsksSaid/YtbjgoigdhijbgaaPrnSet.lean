/-
  THE PROGRAM's parentheses: sets of kinds, a bit each.
-/
import Derived.Test.YtbjgoigdhijbgaaOpsTold
import Derived.Deep.LoopGhost
set_option linter.all false
namespace Go.Proofs.Ytbjgoigdhijbgaa
open Go.RowKit Go.PlainAid

/-- The bit of a kind. -/
def bitI (k : Int) : Int := IntKind.u64.wrap (2 ^ min (IntKind.u64.wrap k).toNat 64)
set_option maxRecDepth 100000 in
set_option maxHeartbeats 4000000 in
theorem bit_any (k : Int) (w : World) :
    Calls Try.prog 23 #[.int .i64 k] w fun e w' => e = .returned (.int .u64 (bitI k)) ∧ Below w.heap.size w w' := by
  unfold bitI
  go_enter Try.func23, Try.ntmps23
  go_wp2_with fail
  go_ret
  exact ⟨rfl, Below.refl _ _⟩
/-- The kinds put together. -/
def orI (a k : Int) : Int := bits BinOp.or IntKind.u64 a (bitI k)
def ofI : List Int → Int → Int
  | [], a => a
  | k :: t, a => ofI t (orI a k)
def hasI (a k : Int) : Bool := bits BinOp.and IntKind.u64 a (bitI k) != 0
theorem ofI_snoc : ∀ (l : List Int) (k a : Int), ofI (l ++ [k]) a = orI (ofI l a) k
  | [], _, _ => rfl
  | x :: t, k, a => ofI_snoc t k (orI a x)
set_option maxRecDepth 100000 in
set_option maxHeartbeats 4000000 in
theorem has_any (a k : Int) (w : World) :
    Calls Try.prog 20 #[.int .u64 a, .int .i64 k] w fun e w' => e = .returned (.bool (hasI a k)) ∧ Below w.heap.size w w' := by
  have HB := Lib.hid (fun W => bit_any k W)
  unfold hasI
  obtain ⟨b, hb⟩ : ∃ b, b = bitI k := ⟨_, rfl⟩
  rw [← hb] at HB ⊢
  clear hb
  go_enter Try.func20, Try.ntmps20
  go_wp2_with fail
  refine (HB.out _).mono ?_
  rintro e w1 ⟨rfl, hb1⟩
  go_wp2_with fail
  go_ret
  exact ⟨rfl, hb1⟩
set_option maxRecDepth 100000 in
set_option maxHeartbeats 4000000 in
theorem of_any (l : List Int) (g n cap : Nat) (w : World) (hn : n = l.length) (h : ∀ i k, l[i]? = some k → w.cell? ⟨g, i, none⟩ = some (.int .i64 k)) (hl : l.length ≤ 1000) (hcap : n ≤ cap ∧ cap ≤ maxLen) (hg : g < w.heap.size) :
    Calls Try.prog 19 #[.slice (some ⟨g, 0, none⟩) n cap] w fun e w' => e = .returned (.int .u64 (ofI l 0)) ∧ Below w.heap.size w w' := by
  have HB := Lib.hid (fun k W => bit_any k W)
  have HH := Lib.hid h
  have HN := Lib.hid hn
  rw [← hn] at hl
  clear h hn
  go_enter Try.func19, Try.ntmps19
  go_wp2_with fail
  go_loopg [3, 8] n (fun gn x c wi => ∃ (j : Nat), gn = n - j ∧ j ≤ n ∧ c = .int .i64 (j : Int) ∧ x = .int .u64 (ofI (l.take j) 0) ∧ Hid (Below w.heap.size w wi))
  case atStart => exact ⟨0, rfl, Nat.zero_le _, rfl, rfl, Lib.hid (Below.refl _ _)⟩
  case round =>
    obtain ⟨j, hgn, hj, rfl, rfl, HBi⟩ := hrel
    obtain ⟨A, hA⟩ : ∃ A, A = ofI (l.take j) 0 := ⟨_, rfl⟩
    rw [← hA]
    have HA := Lib.hid hA
    clear hA
    by_cases hlt : j < n
    · have jn : (j : Int) < (n : Int) := by omega
      obtain ⟨k, hk⟩ : ∃ k, l[j]? = some k := ⟨_, List.getElem?_eq_getElem (by rw [← HN.out]; exact hlt)⟩
      have hc := (HBi.out.cell (p := ⟨g, j, none⟩) hg).trans (HH.out j k hk)
      have HK := Lib.hid hk
      clear hk
      go_wp2_with fail
      refine (HB.out k _).mono ?_
      rintro e w1 ⟨rfl, hb1⟩
      have HB1 : Hid (Below w.heap.size w w1) := Lib.hid (HBi.out.trans (hb1.mono HBi.out.size))
      clear hb1 HBi hc
      go_wp2_with fail
      go_roundg (n - (j + 1))
      case measure => omega
      case rel =>
        refine ⟨j + 1, rfl, hlt, by go_num, ?_, HB1⟩
        rw [List.take_add_one, HK.out, Option.toList_some, ofI_snoc, ← HA.out]
        rfl
    · obtain rfl : j = n := by omega
      have jn : ¬ (j : Int) < (j : Int) := by omega
      go_wp2_with fail
      go_ret
      exact ⟨by rw [HA.out, List.take_of_length_le (by rw [← HN.out]; exact Nat.le_refl _)]; rfl, HBi.out⟩
/-- What stands in a set of small kinds. -/
theorem bit_out {k : Int} (h1 : -9223372036854775808 ≤ k ∧ k ≤ 9223372036854775807) (h2 : k < 0 ∨ 64 ≤ k) : bitI k = 0 := by
  have hw := IntKind.wrap_u64 k
  have : 64 ≤ (IntKind.u64.wrap k).toNat := by omega
  unfold bitI
  rw [Nat.min_eq_right this]
  rfl
def bareL : List Int := [2, 3, 8, 9, 10, 11, 12]
def hugL : List Int := [2, 4, 5, 6, 8, 9, 10, 11, 15, 17, 18, 19, 20, 21]
theorem has_small : ∀ k : Fin 64, hasI (ofI bareL 0) (k.val : Int) = bareL.contains (k.val : Int) ∧ hasI (ofI hugL 0) (k.val : Int) = hugL.contains (k.val : Int) := by decide +kernel
theorem has_bare {k : Int} (h1 : -9223372036854775808 ≤ k ∧ k ≤ 9223372036854775807) : hasI (ofI bareL 0) k = bareL.contains k := by
  by_cases h : 0 ≤ k ∧ k < 64
  · have := (has_small ⟨k.toNat, by omega⟩).1
    simpa [Int.toNat_of_nonneg h.1] using this
  · have h2 : hasI (ofI bareL 0) k = false := by rw [hasI, bit_out h1 (by omega)]; rfl
    rw [h2, eq_comm, ← Bool.not_eq_true, List.contains_iff_mem]
    simp [bareL]; omega
theorem has_hug {k : Int} (h1 : -9223372036854775808 ≤ k ∧ k ≤ 9223372036854775807) : hasI (ofI hugL 0) k = hugL.contains k := by
  by_cases h : 0 ≤ k ∧ k < 64
  · have := (has_small ⟨k.toNat, by omega⟩).2
    simpa [Int.toNat_of_nonneg h.1] using this
  · have h2 : hasI (ofI hugL 0) k = false := by rw [hasI, bit_out h1 (by omega)]; rfl
    rw [h2, eq_comm, ← Bool.not_eq_true, List.contains_iff_mem]
    simp [hugL]; omega
end Go.Proofs.Ytbjgoigdhijbgaa
