/-
  How deep tokens are is what the document says (promise 7.1): for every slice of tokens the statement GapDeep returns true. No condition.
-/
import Derived.Test.YtlajngjbajabiaaBase
import Derived.Test.YtlajngjbajabiaaGapTold
import Derived.Test.YtlajngjbajabiaaRefGap
import Derived.Test.YtlajngjbajabiaaTokRow
namespace Go.Proofs.Ytlajngjbajabiaa.gapDeep
open Go.ChangeShapes Go.WideShapes Go.ChangeAt Go.RowKit Go.PlainAid

set_option maxRecDepth 100000 in
set_option maxHeartbeats 4000000 in
theorem walk (a : Option Addr) (len cap : Nat) (T : List Tok) (w : World) (ht : TRow w (.slice a len cap) T ∧ T.length = len ∧ len ≤ maxLen ∧ ∀ (i : Nat) (t : Tok), T[i]? = some t → t.2.1.size ≤ maxLen) :
    Calls Try.prog 4 #[.slice a len cap] w fun e w' => e = .returned (.bool true) ∧ Below w.heap.size w w' := by
  obtain ⟨htr, hlen, hlm, hz⟩ := ht
  by_cases g1 : (200 : Int) < (len : Int)
  · clear htr hlen hz
    go_enter Try.func4, Try.ntmps4
    go_wp2_with fail
    refine (told7_any _).mono ?_
    rintro e w1 ⟨rfl, hb1⟩
    have B1 := Lib.hid hb1
    clear hb1
    go_wp2_with fail
    go_ret
    exact ⟨rfl, B1.out⟩
  have hs : len ≤ 200 := by omega
  obtain ⟨d, hd⟩ : ∃ d, d = dl T 0 0 := ⟨_, rfl⟩
  have HP := Lib.hid (fun W h => deep_any (.slice a len cap) T (by omega) W h)
  have HR := Lib.hid (fun W h => rdeep_any (.slice a len cap) T (by omega) W h)
  rw [← hd] at HP HR
  have HT := Lib.hid htr
  have HZ := Lib.hid hz
  obtain ⟨a', cap', hsl, hr⟩ := htr
  simp only [Value.slice.injEq] at hsl
  obtain ⟨rfl, -, rfl⟩ := hsl
  have HRR := Lib.hid hr
  have HL := Lib.hid hlen
  clear hr hlen hz hlm hd
  go_enter Try.func4, Try.ntmps4
  go_wp2_with fail
  go_loopg [3] len (fun gn i wr => ∃ (j : Nat), gn = len - j ∧ j ≤ len ∧ i = .int .i64 (j : Int) ∧ Hid (Below w.heap.size w wr))
  case atStart => exact ⟨0, rfl, Nat.zero_le _, rfl, Lib.hid (Below.refl _ _)⟩
  case round =>
    obtain ⟨m, hgn, hm, rfl, HW⟩ := hrel
    by_cases hlt : m < len
    · obtain ⟨x, hx⟩ : ∃ x, T[m]? = some x := ⟨_, List.getElem?_eq_getElem (by rw [HL.out]; exact hlt)⟩
      obtain ⟨g, o, rfl, hg, hcc⟩ := HRR.out (by rw [HL.out]; omega)
      obtain ⟨c0, c1, c2⟩ := hcc m x hx
      have hz := HZ.out m x hx
      obtain ⟨K, P, b⟩ := x
      simp only at c0 c1 c2 hz
      have c1' := (HW.out.cell (p := ⟨g, o + m * 3 + 1, none⟩) hg).trans c1
      have mn : (m : Int) < (len : Int) := by omega
      clear hcc hx c0 c1 c2
      by_cases hp : (100 : Int) < (P.size : Int)
      · go_wp2_with fail
        refine (told7_any _).mono ?_
        rintro e w1 ⟨rfl, hb1⟩
        have B1 : Hid (Below w.heap.size w w1) := Lib.hid (HW.out.trans (hb1.mono HW.out.size))
        clear hb1
        go_wp2_with fail
        go_ret
        exact ⟨rfl, B1.out⟩
      · go_wp2_with fail
        go_roundg (len - (m + 1))
        case measure => omega
        case rel => exact ⟨m + 1, rfl, hlt, by go_num, HW⟩
    · obtain rfl : m = len := by omega
      go_wp2_with fail
      refine (told7_any _).mono ?_
      rintro e w1 ⟨rfl, hb1⟩
      have B1 : Hid (Below w.heap.size w w1) := Lib.hid (HW.out.trans (hb1.mono HW.out.size))
      clear hb1
      go_wp2_with fail
      refine (HP.out _ (HT.out.below B1.out)).mono ?_
      rintro e w2 ⟨rfl, hb2⟩
      have B2 : Hid (Below w.heap.size w w2) := Lib.hid (B1.out.trans (hb2.mono B1.out.size))
      clear hb2
      go_wp2_with fail
      refine (HR.out _ (HT.out.below B2.out)).mono ?_
      rintro e w3 ⟨rfl, hb3⟩
      have B3 : Hid (Below w.heap.size w w3) := Lib.hid (B2.out.trans (hb3.mono B2.out.size))
      clear hb3
      go_wp2_with fail
      go_ret
      exact ⟨rfl, B3.out⟩
set_option maxRecDepth 100000 in
theorem lifted (os : Os) (started : os.Started) (H : Type) (enc : TypeId × Value → H) :
    ReturnsInHanded {} Try.checked os 4 .any (Rows.gapDeepSpec.pre6 enc Try.prog Try.f4 Rows.gapDeepRow.domain false) (Rows.gapDeepSpec.post enc Try.prog Try.f4 false true false false) := by
  refine returnsInHanded_of_change (C := Try.checked) ownKnobNone started (by kernel_rfl) Try.func4
    (ChangeSpec.witness6 (enc := enc) (C := Try.checked) false ⟨#[], #[.slice none 0 0], []⟩ 8 (by kernel_rfl) (by kernel_rfl) (by kernel_rfl) (by kernel_rfl)) ?_
  intro W base args ds gs before hval0 hW hcnd _
  have hval : ∀ (j : Nat) t v, Try.f4.params[j]? = some t → args[j]? = some v → Value.okWide Try.prog W .any base t v := hval0
  have hW' := hW
  obtain ⟨p, q, hA0, hV, rfl, hfz, hnd⟩ := hW
  have hA : DataW.TrodAll enc Try.prog W 0 (fun _ => true) true Try.f4.params.toList args.toList ds p := hA0
  rw [Try.params4] at hA hval
  obtain ⟨v0, vs0, d0, ds0, p0, q0, hargs, rfl, rfl, h0, r0⟩ := trodAll_cons hA
  obtain ⟨rfl, rfl, rfl⟩ := trodAll_nil r0
  obtain rfl : args = #[v0] := by cases args; simp_all
  obtain ⟨rfl, rfl⟩ := trodVars_none hV
  obtain ⟨a0, len0, cap0, rfl⟩ := okWide_slice Try.underlying23 (hval 0 23 v0 rfl rfl)
  have k0 := h0
  have lt0 : ∀ x ∈ p0, x.block < W.heap.size := by obtain ⟨m, hm⟩ := k0; exact DataW.trod_lt m _ _ _ hm
  obtain ⟨z0, w0⟩ : ∃ T : List Tok, TRow W (.slice a0 len0 cap0) T ∧ T.length = len0 ∧ len0 ≤ maxLen ∧ ∀ (i : Nat) (t : Tok), T[i]? = some t → t.2.1.size ≤ maxLen := by
    obtain ⟨fuel, hf⟩ := h0
    exact open_toks hf
  clear hA0 hval0
  refine (walk a0 len0 cap0 z0 W w0).mono fun e W' ⟨he, bel⟩ => ?_
  subst he
  exact ⟨_, rfl, _, _, _, [], _, [], hW', trodAll_mk1 (shut_bool Try.underlying4 _), (trodAll_cons_mk (Below.trod laidOutP (by kernel_rfl) (of_decide_eq_true (by kernel_rfl)) k0 bel lt0) trodAll_mk0), rfl, bel.frame _, fun h => by cases h⟩
theorem over : Rows.GapDeepSaid :=
  OpenClaim.holds_of_wide 4 Try.f4 rfl rfl rfl rfl rfl rfl rfl ⟨rfl, rfl, rfl, rfl, rfl⟩ rfl rfl rfl rfl rfl (by kernel_rfl) Try.func4 (by kernel_rfl)
    (of_decide_eq_true (by kernel_rfl)) (by unfold Func.isWrapper; first | (rw [if_pos (by decide +kernel)]; kernel_rfl) | (rw [if_neg (by decide +kernel)]; exact ⟨rfl, rfl⟩))
    (fun os started H enc _ => lifted os started H enc)
/-- THE STATEMENT. -/
theorem proved : Rows.GapDeepSaid := over
#print axioms proved
end Go.Proofs.Ytlajngjbajabiaa.gapDeep
