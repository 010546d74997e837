/-
  Plain facts on names that are put together out of bytes. Nothing of the program stands here.
-/
import Derived.Test.YtjlimnmcaganfaaUtfMath
import Derived.Test.YtjlimnmcaganfaaWordMath
namespace Go.Proofs.Ytjlimnmcaganfaa
open Go.PlainAid

theorem ws_inner : ∀ r : Fin 24, ((ws.getD r []).all fun x => inn (x.toNat : Int)) = true := by decide +kernel
/-- All bytes of a reserved word stand within names. -/
theorem rs_inner {s : ByteArray} (h : rs s = true) : inns s = true := by
  unfold rs at h
  rw [List.any_eq_true] at h
  obtain ⟨l, hl, he⟩ := h
  obtain ⟨j, hj, rfl⟩ := List.getElem_of_mem hl
  have := ws_inner ⟨j, hj⟩
  simp only [List.getD_eq_getElem?_getD, List.getElem?_eq_getElem hj, Option.getD_some] at this
  unfold inns
  rw [eq_of_beq he]
  exact this
theorem inns_cut {s : ByteArray} (h : inns s = true) (k : Nat) (hk : k ≤ s.size) : inns (s.extract 0 k) = true ∧ inns (s.extract k s.size) = true := by
  have e : s.extract 0 k ++ s.extract k s.size = s := by
    apply ByteArray.ext
    rw [ByteArray.data_append, ByteArray.data_extract, ByteArray.data_extract]
    rw [Array.extract_append_extract, Nat.min_eq_left (Nat.zero_le _), Nat.max_eq_right hk]
    exact Array.extract_size
  rw [← e, inns_app, Bool.and_eq_true] at h
  exact h
/-- A byte put into a name behind its beginning. -/
def putIn (s : ByteArray) (k : Nat) (x : UInt8) : ByteArray := s.extract 0 k ++ ⟨[x].toArray⟩ ++ s.extract k s.size
theorem putIn_inns {s : ByteArray} {k : Nat} (x : UInt8) (h : inns s = true) (hk : k ≤ s.size) : inns (putIn s k x) = inn (x.toNat : Int) := by
  unfold putIn
  rw [inns_app, inns_app, (inns_cut h k hk).1, (inns_cut h k hk).2]
  have e : inns ⟨[x].toArray⟩ = inn (x.toNat : Int) := by
    unfold inns
    simp only [List.all_cons, List.all_nil, Bool.and_true]
  rw [e]; simp
theorem putIn_size {s : ByteArray} {k : Nat} (x : UInt8) (hk : k ≤ s.size) : (putIn s k x).size = s.size + 1 := by
  unfold putIn
  rw [ByteArray.size_append, ByteArray.size_append, size_ext _ _ _ hk, size_ext _ _ _ (Nat.le_refl _)]
  show k - 0 + 1 + (s.size - k) = _
  omega
theorem putIn_first {s : ByteArray} {k : Nat} (x : UInt8) (hk : k ≤ s.size) (h0 : 0 < k) : bt (putIn s k x) 0 = bt s 0 := by
  unfold putIn
  rw [bt_app_l _ _ _ (by rw [ByteArray.size_append, size_ext _ _ _ hk]; omega), bt_app_l _ _ _ (by rw [size_ext _ _ _ hk]; omega), bt_ext _ _ _ _ hk (by omega), Nat.zero_add]
theorem putIn_pl {s : ByteArray} {k : Nat} (x : UInt8) (h : inns s = true) (hb : beg (bt s 0) = 1) (hk : k ≤ s.size) (h0 : 0 < k) :
    (pl (putIn s k x) || rs (putIn s k x)) = inn (x.toNat : Int) := by
  have h1 := putIn_inns x h hk
  have h2 := putIn_first x hk h0
  cases hi : inn (x.toNat : Int)
  · rw [hi] at h1
    rw [pl_inner h1]
    cases hr : rs (putIn s k x)
    · rfl
    · rw [rs_inner hr] at h1; cases h1
  · rw [hi] at h1
    rw [pl_res (by rw [h2]; exact hb) h1]
    cases rs (putIn s k x) <;> rfl
theorem pl_A (s : ByteArray) : pl (⟨#[65]⟩ ++ s) = false := by
  refine pl_begin ?_
  rw [bt_app_l _ _ _ (by decide)]
  decide +kernel
/-- A name so far: k bytes, a small letter first, all of them inner. -/
def Name (s : ByteArray) (k : Nat) : Prop := s.size = k ∧ 0 < k ∧ beg (bt s 0) = 1 ∧ inns s = true
theorem name_start : ∀ d : Fin 26, Name ⟨[UInt8.ofNat (97 + d)].toArray⟩ 1 := by
  intro d
  exact ⟨rfl, by decide, (by revert d; decide +kernel), (by revert d; decide +kernel)⟩
theorem name_next {s t : ByteArray} {k : Nat} (h : Name s k) (ht : t.size = 1) (hi : inns t = true) : Name (s ++ t) (k + 1) := by
  obtain ⟨h1, h2, h3, h4⟩ := h
  refine ⟨by rw [ByteArray.size_append]; omega, by omega, ?_, by rw [inns_app, h4, hi]; rfl⟩
  rw [bt_app_l _ _ _ (by omega)]
  exact h3
/-- The bytes that names are made of. -/
def letters : ByteArray := { data := #[97, 98, 99, 100, 101, 102, 103, 104, 105, 106, 107, 108, 109, 110, 111, 112, 113, 114, 115, 116, 117, 118, 119, 120, 121, 122, 65, 66, 67, 88, 89, 90, 48, 49, 50, 57, 95, 64] }
theorem letters_at : ∀ k : Fin 38, (letters.extract k (k + 1)).size = 1 ∧ inns (letters.extract k (k + 1)) = true := by decide +kernel
end Go.Proofs.Ytjlimnmcaganfaa
