/-
  A tree that is put twice, and its parts, have the numbers that they had; a pool grows by no more than the tree has nodes (promise 11.1): for every row of trees of bulk at most 1,048,576 the statement PoolTwice returns true.
-/
import Derived.Test.YtkngnkonddpbeaaBase
import Derived.Test.YtkngnkonddpbeaaNodeU
import Derived.Test.YtkngnkonddpbeaaPoolTwiceW
import Derived.Test.YtkngnkonddpbeaaPrePool
import Derived.Deep.CondSized
import Derived.JoinedCond
namespace Go.Proofs.Ytkngnkonddpbeaa.poolTwice
open Go.ChangeShapes Go.WideShapes Go.ChangeAt Go.RowKit Go.PlainAid Go.Proofs.Ytkngnkonddpbeaa

theorem walk (v : Value) (l : List Nd) (w : World) (h : RowN w v l) (hs : ∀ x ∈ l, Sza x) (hb : ∀ x ∈ l, cnt x ≤ 1048576 ∧ smk 1048576 x) :
    Calls Try.prog 5 #[v] w fun e w' => e = .returned (.bool true) ∧ Below w.heap.size w w' := poolTwice_walk poolI v l w h (fun x hx => ⟨(hb x hx).1, (hb x hx).2, (hs x hx).2⟩)
set_option maxRecDepth 100000 in
theorem lifted (os : Os) (started : os.Started) (H : Type) (enc : TypeId × Value → H) (F : Stop.Interp) :
    ReturnsInHanded {} Try.checked os 5 .any ((Rows.OpenSpec.upto Rows.poolTwiceSpec).pre6 enc Try.prog Try.f5 Rows.poolTwiceUptoRow.domain false) (((Rows.OpenSpec.upto Rows.poolTwiceSpec).at F).post enc Try.prog Try.f5 false true false false) := by
  refine returnsInHanded_of_cond_sized (C := Try.checked) (s := (Rows.OpenSpec.upto Rows.poolTwiceSpec)) (k := Rows.uptoSmall) rfl ownKnobNone started (by kernel_rfl) Try.func5
    (OpenSpec.witness (enc := enc) (C := Try.checked) (s := (Rows.OpenSpec.upto Rows.poolTwiceSpec)) (k := Rows.uptoSmall) rfl false ⟨#[], #[.slice none 0 0], []⟩ 8 (by kernel_rfl) (by kernel_rfl) (by kernel_rfl) (x := ([.nil], [], [])) (by kernel_rfl) rfl (by kernel_rfl)) ?_
  intro W base args ds gs before hval0 hW _ hk0 hz0 _
  show Calls Try.prog 5 args W fun e W' => ∃ v, e = .returned v ∧ Rows.poolTwiceSpec.post enc Try.prog Try.f5 false true false false W args v W'
  have hval : ∀ (j : Nat) t v, Try.f5.params[j]? = some t → args[j]? = some v → Value.okWide Try.prog W .any base t v := hval0
  have hW' := hW
  obtain ⟨p, q, hA0, hV, rfl, hfz, hnd⟩ := hW
  have hA : DataW.TrodAll enc Try.prog W 0 (fun _ => true) true Try.f5.params.toList args.toList ds p := hA0
  rw [Try.params5] at hA hval
  obtain ⟨v0, vs0, d0, ds0, p0, q0, hargs, rfl, rfl, h0, r0⟩ := trodAll_cons hA
  obtain ⟨rfl, rfl, rfl⟩ := trodAll_nil r0
  obtain rfl : args = #[v0] := by cases args; simp_all
  obtain ⟨rfl, rfl⟩ := trodVars_none hV
  have hz0' : ∀ m ∈ d0.weights Try.prog 22, m ≤ reachBytes := fun m hm => by simpa using List.all_eq_true.1 hz0 m (DataW.weights_mem_each (j := 0) (by rw [Try.params5]; rfl) rfl m hm)
  obtain ⟨a0, len0, cap0, rfl⟩ := okWide_slice Try.underlying22 (hval 0 22 v0 rfl rfl)
  have k0 := h0
  have lt0 : ∀ x ∈ p0, x.block < W.heap.size := by obtain ⟨m, hm⟩ := k0; exact DataW.trod_lt m _ _ _ hm
  obtain ⟨z0, w0, s0, b0⟩ : ∃ T : List Nd, RowN W (.slice a0 len0 cap0) T ∧ (∀ x ∈ T, Sza x) ∧ ∀ x ∈ T, cnt x ≤ 1048576 ∧ smk 1048576 x := by
    obtain ⟨fuel, hf⟩ := h0
    obtain ⟨T, t1, t2, t3⟩ := open_ndsu hf hz0'
    have hb := Nat.le_trans (bulk_part (l := [d0]) (d := d0) (by simp)) (of_decide_eq_true hk0)
    exact ⟨T, t1, t2, fun x hx => ⟨Nat.le_trans (t3 x hx).1 hb, smk_mono hb _ (t3 x hx).2⟩⟩
  clear hA0 hval0
  refine (walk (.slice a0 len0 cap0) z0 W w0 s0 b0).mono fun e W' ⟨he, bel⟩ => ?_
  subst he
  exact ⟨_, rfl, _, _, _, [], _, [], hW', trodAll_mk1 (shut_bool Try.underlying4 _), (trodAll_cons_mk (Below.trod laidOutP (by kernel_rfl) (of_decide_eq_true (by kernel_rfl)) k0 bel lt0) trodAll_mk0), rfl, bel.frame _, fun h => by cases h⟩
theorem proved : Rows.PoolTwiceUptoSaid :=
  OpenClaim.holds_of_cond 5 Try.f5 rfl rfl rfl rfl rfl rfl rfl ⟨rfl, rfl, rfl, rfl, rfl⟩ rfl rfl rfl rfl rfl (by kernel_rfl) Try.func5 (by kernel_rfl)
    (of_decide_eq_true (by kernel_rfl)) (by unfold Func.isWrapper; first | (rw [if_pos (by decide +kernel)]; kernel_rfl) | (rw [if_neg (by decide +kernel)]; exact ⟨rfl, rfl⟩))
    (fun os started H enc _ F => lifted os started H enc F)
#print axioms proved
end Go.Proofs.Ytkngnkonddpbeaa.poolTwice
