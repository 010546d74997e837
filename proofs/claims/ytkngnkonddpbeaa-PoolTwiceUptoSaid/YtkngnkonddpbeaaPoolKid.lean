/-
  A tree that is put twice, and its parts, plainly.
-/
import Derived.Test.YtkngnkonddpbeaaPoolDefs
namespace Go.Proofs.Ytkngnkonddpbeaa
open Go.RowKit Go.PlainAid

theorem pidx_kid {xs : List Nd} (h : Pk xs) {n y : Nd} (hy : y ∈ kds' n) : pad y (pad n xs) = pad n xs ∧ 1 ≤ pidx y (pad n xs) ∧ pidx y (pad n xs) < pidx n xs := by
  have hp := pk_pad n xs h
  obtain ⟨i, z, hz, hl, he⟩ := pidx_at h n
  obtain ⟨u, hu, huy⟩ := lkL_mem (lk_kids hl) y hy
  obtain ⟨j, v, hv, hvu⟩ := has_iff.1 (hp.1 i z hz u hu)
  have hj : (pad n xs)[j]? = some v ∧ j < i := by
    rw [List.getElem?_take] at hv
    split at hv
    · rename_i hji; exact ⟨hv, hji⟩
    · cases hv
  have hvy := lk_trans _ _ _ hvu huy
  have hix := pidx_has hp hj.1 hvy
  exact ⟨pad_same y _ hp (has_iff.2 ⟨j, v, hj.1, hvy⟩), by omega, by omega⟩
theorem pidx_again {xs : List Nd} (h : Pk xs) (n : Nd) : pad n (pad n xs) = pad n xs ∧ pidx n (pad n xs) = pidx n xs ∧ psz (pad n xs) (pidx n xs : Int) = cnt n := by
  have hp := pk_pad n xs h
  obtain ⟨i, z, hz, hl, he⟩ := pidx_at h n
  have hi : i < (pad n xs).length := (List.getElem?_eq_some_iff.1 hz).1
  refine ⟨pad_same n _ hp (pad_has n xs), by rw [pidx_has hp hz hl, he], ?_⟩
  unfold psz
  rw [if_pos (by omega), show ((pidx n xs : Nat) : Int).toNat - 1 = i by omega, hz]
  simp only [Option.map_some, Option.getD_some]
  exact lk_cnt _ _ hl
theorem pad_grow (n : Nd) (xs : List Nd) : xs.length ≤ (pad n xs).length ∧ (pad n xs).length - xs.length ≤ cnt n := by
  obtain ⟨ys, hy⟩ := pad_pre n xs
  have := pad_len n xs
  rw [hy, List.length_append] at *
  omega
theorem kid_mem {k : Int} {t : ByteArray} {l : List Nd} {br bl : Bool} {no ta : List ByteArray} {i : Nat} {y : Nd} (h : l[i]? = some y) : y ∈ kds' (.mk k t l br bl no ta) := List.mem_of_getElem? h
end Go.Proofs.Ytkngnkonddpbeaa
