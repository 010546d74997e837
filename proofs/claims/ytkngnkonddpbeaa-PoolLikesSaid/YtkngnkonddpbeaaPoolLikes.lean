/-
  Two trees have one number just if they are like; a tree with Breaks turned has its number (promises 11.1, 11.2): for every two trees the statement PoolLikes returns true. No condition.
-/
import Derived.Test.YtkngnkonddpbeaaBase
import Derived.Test.YtkngnkonddpbeaaNode
import Derived.Test.YtkngnkonddpbeaaPoolLikesW
import Derived.Test.YtkngnkonddpbeaaPrePool
namespace Go.Proofs.Ytkngnkonddpbeaa.poolLikes
open Go.ChangeShapes Go.WideShapes Go.ChangeAt Go.RowKit Go.PlainAid Go.Proofs.Ytkngnkonddpbeaa

theorem walk (c0 : List Value) (n0 : Nd) (c1 : List Value) (n1 : Nd) (w : World) (g0 : NdAt w c0 n0) (s0 : Sza n0) (g1 : NdAt w c1 n1) (s1 : Sza n1) :
    Calls Try.prog 4 #[.agg c0.toArray, .agg c1.toArray] w fun e w' => e = .returned (.bool true) ∧ Below w.heap.size w w' := poolLikes_walk poolI c0 n0 c1 n1 w g0 g1 s0.2 s1.2
set_option maxRecDepth 100000 in
theorem lifted (os : Os) (started : os.Started) (H : Type) (enc : TypeId × Value → H) :
    ReturnsInHanded {} Try.checked os 4 .any (Rows.poolLikesSpec.pre6 enc Try.prog Try.f4 Rows.poolLikesRow.domain false) (Rows.poolLikesSpec.post enc Try.prog Try.f4 false true false false) := by
  refine returnsInHanded_of_change_sized (C := Try.checked) ownKnobNone started (by kernel_rfl) Try.func4
    (ChangeSpec.witness6 (enc := enc) (C := Try.checked) false ⟨#[], #[.agg #[.int .i64 0, .string ByteArray.empty, .slice none 0 0, .bool false, .bool false, .slice none 0 0, .slice none 0 0], .agg #[.int .i64 0, .string ByteArray.empty, .slice none 0 0, .bool false, .bool false, .slice none 0 0, .slice none 0 0]], []⟩ 8 (by kernel_rfl) (by kernel_rfl) (by kernel_rfl) (by kernel_rfl)) ?_
  intro W base args ds gs before hval0 hW _ hz0 _
  have hval : ∀ (j : Nat) t v, Try.f4.params[j]? = some t → args[j]? = some v → Value.okWide Try.prog W .any base t v := hval0
  have hW' := hW
  obtain ⟨p, q, hA0, hV, rfl, hfz, hnd⟩ := hW
  have hA : DataW.TrodAll enc Try.prog W 0 (fun _ => true) true Try.f4.params.toList args.toList ds p := hA0
  rw [Try.params4] at hA hval
  obtain ⟨v0, vs0, d0, ds0, p0, q0, hargs, rfl, rfl, h0, r0⟩ := trodAll_cons hA
  obtain ⟨v1, vs1, d1, ds1, p1, q1, rfl, rfl, rfl, h1, r1⟩ := trodAll_cons r0
  obtain ⟨rfl, rfl, rfl⟩ := trodAll_nil r1
  obtain rfl : args = #[v0, v1] := by cases args; simp_all
  obtain ⟨rfl, rfl⟩ := trodVars_none hV
  have hz0' : ∀ m ∈ d0.weights Try.prog 32, m ≤ reachBytes := fun m hm => by simpa using List.all_eq_true.1 hz0 m (DataW.weights_mem_each (j := 0) (by rw [Try.params4]; rfl) rfl m hm)
  have hz1' : ∀ m ∈ d1.weights Try.prog 32, m ≤ reachBytes := fun m hm => by simpa using List.all_eq_true.1 hz0 m (DataW.weights_mem_each (j := 1) (by rw [Try.params4]; rfl) rfl m hm)
  have k0 := h0
  have lt0 : ∀ x ∈ p0, x.block < W.heap.size := by obtain ⟨m, hm⟩ := k0; exact DataW.trod_lt m _ _ _ hm
  obtain ⟨c0, n0, rfl, g0, s0⟩ := open_node (hval 0 32 v0 rfl rfl) h0 hz0'
  have k1 := h1
  have lt1 : ∀ x ∈ p1, x.block < W.heap.size := by obtain ⟨m, hm⟩ := k1; exact DataW.trod_lt m _ _ _ hm
  obtain ⟨c1, n1, rfl, g1, s1⟩ := open_node (hval 1 32 v1 rfl rfl) h1 hz1'
  clear hA0 hval0
  refine (walk c0 n0 c1 n1 W g0 s0 g1 s1).mono fun e W' ⟨he, bel⟩ => ?_
  subst he
  exact ⟨_, rfl, _, _, _, [], _, [], hW', trodAll_mk1 (shut_bool Try.underlying4 _), (trodAll_cons_mk (Below.trod laidOutP (by kernel_rfl) (of_decide_eq_true (by kernel_rfl)) k0 bel lt0) (trodAll_cons_mk (Below.trod laidOutP (by kernel_rfl) (of_decide_eq_true (by kernel_rfl)) k1 bel lt1) trodAll_mk0)), rfl, bel.frame _, fun h => by cases h⟩
theorem over : Rows.PoolLikesSaid :=
  OpenClaim.holds_of_wide 4 Try.f4 rfl rfl rfl rfl rfl rfl rfl ⟨rfl, rfl, rfl, rfl, rfl⟩ rfl rfl rfl rfl rfl (by kernel_rfl) Try.func4 (by kernel_rfl)
    (of_decide_eq_true (by kernel_rfl)) (by unfold Func.isWrapper; first | (rw [if_pos (by decide +kernel)]; kernel_rfl) | (rw [if_neg (by decide +kernel)]; exact ⟨rfl, rfl⟩))
    (fun os started H enc _ => lifted os started H enc)
/-- THE STATEMENT. -/
theorem proved : Rows.PoolLikesSaid := over
#print axioms proved
end Go.Proofs.Ytkngnkonddpbeaa.poolLikes
