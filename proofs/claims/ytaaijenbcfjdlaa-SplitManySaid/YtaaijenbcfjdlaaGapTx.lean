/-
  What a text that is put together scans as: its tokens' kinds and texts, one behind the other.
-/
import Derived.Test.YtaaijenbcfjdlaaGapDefs
namespace Go.Proofs.Ytaaijenbcfjdlaa
open Go.RowKit Go.PlainAid

/-- A token's kind and its text. -/
abbrev Kt := Int × ByteArray
def kt3 (s : ByteArray) (x : Tk3) : Kt := (x.1, s.extract x.2.1 x.2.2)
/-- The text scans as these. -/
def Tx (Y : ByteArray) (R : List Kt) : Prop := vd Y 0 = true ∧ ∃ L, sc Y (fw bl Y 0) = some L ∧ L.map (kt3 Y) = R
theorem ext_right7 (A B : ByteArray) (i j : Nat) : (A ++ B).extract (A.size + i) (A.size + j) = B.extract i j := by
  apply ByteArray.ext
  apply Array.toList_inj.1
  rw [Lib.extract_data, Lib.extract_data]
  simp only [ByteArray.toList_data_append]
  have hl : A.data.toList.length = A.size := by rw [Array.length_toList]; rfl
  rw [List.drop_append, List.drop_of_length_le (by omega), List.nil_append, show A.size + i - A.data.toList.length = i by omega, show A.size + j - (A.size + i) = j - i by omega]
/-- The joined text's scan. -/
theorem kt_shf (P Y : ByteArray) (L : List Tk3) : (shf P.size L).map (kt3 (P ++ Y)) = L.map (kt3 Y) := by
  unfold shf
  rw [List.map_map]
  refine List.map_congr_left fun x _ => ?_
  show (x.1, (P ++ Y).extract (P.size + x.2.1) (P.size + x.2.2)) = (x.1, Y.extract x.2.1 x.2.2)
  rw [ext_right7]
theorem ext_left7 (A B : ByteArray) {i j : Nat} (h : j ≤ A.size) : (A ++ B).extract i j = A.extract i j := by
  apply ByteArray.ext
  rw [ByteArray.data_extract, ByteArray.data_extract, ByteArray.data_append, Array.extract_append]
  have : A.size = A.data.size := rfl
  rw [show j - A.data.size = 0 by omega]
  simp
theorem fw_skip (P Y : ByteArray) (n : Nat) (hn : n ≤ P.size) (hb : ∀ i, n ≤ i → i < P.size → bl (bt P i) = true) : fw bl (P ++ Y) n = P.size + fw bl Y 0 := by
  have h1 := fw_le bl Y 0 (Nat.zero_le _)
  refine fw_is (by omega) (by rw [ByteArray.size_append]; omega) (fun i h2 h3 => ?_) (fun h => ?_)
  · by_cases hi : i < P.size
    · rw [bt_app_l _ _ _ hi]; exact hb i h2 hi
    · rw [show i = P.size + (i - P.size) by omega, bt_app_r]
      exact fw_all bl Y 0 _ (Nat.zero_le _) (by omega)
  · rw [ByteArray.size_append] at h
    rw [bt_app_r]
    exact fw_not bl Y 0 (by omega)
theorem Tx.nil : Tx { data := #[] } [] := ⟨by rw [vd_F _ 0 0 (by decide)]; decide, [], by rw [sc_end (by rw [fw_end (by decide)]; decide)], rfl⟩
theorem Tx.blank {P Y : ByteArray} {R : List Kt} (hv : vd P 0 = true) (hb : ∀ i, i < P.size → bl (bt P i) = true) (h : Tx Y R) : Tx (P ++ Y) R := by
  obtain ⟨v, L, h1, h2⟩ := h
  refine ⟨vd_both hv v, shf P.size L, ?_, by rw [kt_shf]; exact h2⟩
  rw [fw_skip P Y 0 (Nat.zero_le _) (fun i _ hi => hb i hi)]
  exact right_sc P Y L _ (fw_le bl Y 0 (Nat.zero_le _)) h1
theorem Tx.cons {P Y : ByteArray} {R : List Kt} {kd : Int} {n : Nat} (hv : vd P 0 = true) (hn : 0 < n) (hnP : n ≤ P.size) (hf : bl (bt P 0) = false) (ho : one (P ++ Y) 0 = (kd, n)) (hk : kd ≠ 0)
    (hb : ∀ i, n ≤ i → i < P.size → bl (bt P i) = true) (h : Tx Y R) : Tx (P ++ Y) ((kd, P.extract 0 n) :: R) := by
  obtain ⟨v, L, h1, h2⟩ := h
  have h0 : fw bl (P ++ Y) 0 = 0 := fw_stop (by rw [bt_app_l _ _ _ (by omega)]; exact hf)
  refine ⟨vd_both hv v, (kd, 0, n) :: shf P.size L, ?_, ?_⟩
  · rw [h0, sc_go (by rw [ByteArray.size_append]; omega) (by rw [ho]; exact hk), ho]
    simp only
    rw [fw_skip P Y n hnP hb, right_sc P Y L _ (fw_le bl Y 0 (Nat.zero_le _)) h1]
    rfl
  · rw [List.map_cons, kt_shf, h2]
    show (kd, (P ++ Y).extract 0 n) :: R = _
    rw [ext_left7 _ _ hnP]
theorem drop_app (P Y : ByteArray) : (P ++ Y).data.toList.drop 0 = P.data.toList ++ Y.data.toList := by
  rw [List.drop_zero, ByteArray.data_append, Array.toList_append]
/-- A sign at the beginning, whatever stands behind. -/
theorem one_sg {P Y : ByteArray} {c : Int} {m : Nat} (hP : 0 < P.size) (hc : bt P 0 = c) (h37 : c ≠ 37) (h46 : c ≠ 46) (hbg : beg c = 0) (h39 : c ≠ 39) (h34 : c ≠ 34) (h36 : c ≠ 36) (h63 : c ≠ 63)
    (hm : lgL (P.data.toList ++ Y.data.toList) = m) (hm0 : m ≠ 0) : one (P ++ Y) 0 = (9, m) := by
  have b0 : bt (P ++ Y) 0 = c := by rw [bt_app_l _ _ _ hP]; exact hc
  rw [one_sign (by rw [b0]; exact h37) (by rw [b0]; exact fun h => h46 h.1) (by rw [b0]; exact hbg) (by rw [b0]; exact h39) (by rw [b0]; exact h34) (by rw [b0]; exact h36) (by rw [b0]; exact h63), drop_app, hm, if_neg hm0, Nat.zero_add]
/-- What a name ends at. -/
def Stop (Y : ByteArray) : Prop := Y.size = 0 ∨ inn (bt Y 0) = false
/-- A name at the beginning. -/
theorem one_nm {P Y : ByteArray} {n : Nat} (hP : n ≤ P.size) (hn : 0 < n) (hc : beg (bt P 0) = 1) (hi : ∀ i, i < n → inn (bt P i) = true) (hs : (n < P.size ∧ inn (bt P n) = false) ∨ (n = P.size ∧ Stop Y)) :
    one (P ++ Y) 0 = (if rs (P.extract 0 n) = true then 8 else 1, n) := by
  have b0 : bt (P ++ Y) 0 = bt P 0 := bt_app_l _ _ _ (by omega)
  have hf : fw inn (P ++ Y) 0 = n := by
    refine fw_is (Nat.zero_le _) (by rw [ByteArray.size_append]; omega) (fun i _ h => by rw [bt_app_l _ _ _ (by omega)]; exact hi i h) (fun h => ?_)
    rcases hs with ⟨h1, h2⟩ | ⟨h1, h2⟩
    · rw [bt_app_l _ _ _ h1]; exact h2
    · rw [ByteArray.size_append] at h
      rw [h1, show P.size = P.size + 0 by rfl, bt_app_r]
      rcases h2 with h2 | h2
      · omega
      · exact h2
  rw [one_name (by rw [b0, hc]; decide) (by rw [b0, hc]; decide), hf, b0, hc, ext_left7 _ _ hP]
end Go.Proofs.Ytaaijenbcfjdlaa
