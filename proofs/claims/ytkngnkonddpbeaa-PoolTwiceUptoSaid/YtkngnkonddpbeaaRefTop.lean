/-
  THE DOCUMENT's Same and Like.
-/
import Derived.Test.YtkngnkonddpbeaaRefLike
import Derived.Test.YtkngnkonddpbeaaTreeFew
namespace Go.Proofs.Ytkngnkonddpbeaa
open Go.RowKit Go.PlainAid

/-- What all calls bear: not too many nodes, not too many comments at a place. -/
def OkT (n : Nd) : Prop := cnt n ≤ 5000 ∧ smk 100 n
theorem OkT.sml {n : Nd} (h : OkT n) : sml n := smk_sml (by omega) n h.2
theorem OkT.nts {n : Nd} (h : OkT n) : (nts n).length ≤ 1048576 := by have := nts_bound n h.2; have := h.1; omega
theorem OkT.lts {n : Nd} (h : OkT n) : (lts n).length ≤ 1048576 := by have := lts_bound n; have := h.1; omega
mutual
theorem smk_mono {a b : Nat} (hab : a ≤ b) : ∀ n : Nd, smk a n → smk b n
  | .mk _ _ l _ _ no ta, h => by
    simp only [smk] at h ⊢
    exact ⟨by omega, by omega, smkL_mono hab l h.2.2⟩
theorem smkL_mono {a b : Nat} (hab : a ≤ b) : ∀ l : List Nd, smkL a l → smkL b l
  | [], _ => by simp only [smkL]
  | x :: t, h => by
    simp only [smkL] at h ⊢
    exact ⟨smk_mono hab x h.1, smkL_mono hab t h.2⟩
end
theorem fewB_okT {n : Nd} (h : fewB n = true) : OkT n := by
  obtain ⟨h1, h2⟩ := fewB_ok h
  exact ⟨by omega, smk_mono (by omega) n h2⟩
set_option maxRecDepth 100000 in
theorem rlikes_any (n n2 : Nd) (c c2 : List Value) (w : World) (h1 : NdAt w c n) (h2 : NdAt w c2 n2) (h : OkT n) :
    Calls Try.prog 14 #[.agg c.toArray, .agg c2.toArray] w fun e w' => e = .returned (.bool (lk false n n2)) ∧ Below w.heap.size w w' := by
  have H := Lib.hid (fun W (hb : Below w.heap.size w W) => rlike_any false 5000 (by omega) n h.1 h.sml n2 c c2 W (h1.bel hb) (h2.bel hb))
  cases n; cases n2; obtain ⟨_, _, _, _, rfl, -⟩ := h1.inv; obtain ⟨_, _, _, _, rfl, -⟩ := h2.inv; clear h1 h2 h
  go_enter Try.func14, Try.ntmps14
  go_wp2_with fail
  refine (H.out _ (by first | exact below2 _ _ _ | exact below1 _ _)).mono ?_
  rintro e w1 ⟨rfl, hb1⟩
  have B1 : Hid (Below w.heap.size w w1) := Lib.hid (Below.trans (by first | exact below2 _ _ _ | exact below1 _ _) (hb1.mono (by simp <;> omega)))
  clear hb1
  go_wp2_with fail
  go_ret
  exact ⟨rfl, B1.out⟩
end Go.Proofs.Ytkngnkonddpbeaa
