/-
  THE DOCUMENT's Pool: Put, of any tree.
-/
import Derived.Test.YtkngnkonddpbeaaRefPool
namespace Go.Proofs.Ytkngnkonddpbeaa
open Go.RowKit Go.PlainAid

theorem rpool_put (Gx : Nat → Prop) (b : Nat) (T : TypeId) (base : Nat) (hbb : base ≤ b) : ∀ (m : Nat) (n : Nd), cnt n ≤ m → OkT n → ∀ (xs : List Nd) (v : Value) (c : List Value) (w : World), (∀ y ∈ xs, OkT y) → xs.length + cnt n ≤ 100000 → (∀ g, w.heap.size ≤ g → Gx g) → w.heap[b]? = some (.cells #[v] T) → OwnN w (fun g => g ≠ b ∧ Gx g) base v xs → NdIn w (fun g => g ≠ b ∧ Gx g ∧ v.ownBlock ≠ some g) c n →
    Calls Try.prog 11 #[.pointer (some ⟨b, 0, none⟩), .agg c.toArray] w fun e w' => RPut Gx w b T base v (pad n xs) (pidx n xs) e w'
  | 0, n, hn, _, _, _, _, _, _, _, _, _, _, _ => by have := cnt_pos n; omega
  | m + 1, .mk k t l br bl no ta, hn, ho, xs, v, c, w, hxs, hlen, hG, hb, hown, hnd => by
    have ih := rpool_put Gx b T base hbb m
    have ho1 := ho.1
    have ho2 := ho.2
    simp only [cnt] at hn ho1
    simp only [smk] at ho2
    have hnd' := hnd
    cases hnd with
    | mk _ _ _ _ _ _ _ lv nv tv cs hn2 ht2 hl2 hc2 =>
      obtain ⟨na, nc, rfl, -⟩ := hn2
      obtain ⟨ta2, tc, rfl, -⟩ := ht2
      obtain ⟨la, lc, rfl, -⟩ := hl2
      refine rput_first Gx b T base v xs k t l br bl no ta la na ta2 lc nc tc w ho hxs hlen hb hown hbb hG hnd' (Lib.hid fun x q hx ys u c W h1 h2 h6 h3 h4 h5 => ?_)
      have := cnt_at hx
      exact ih x (by omega) ⟨by omega, smk_at9 ho2.2.2 hx⟩ ys u c W h1 h2 (fun g hg => hG g (Nat.le_trans h6 hg)) h3 h4 h5
end Go.Proofs.Ytkngnkonddpbeaa
