/-
  A row's text and width are its parts' one behind the other (promise 16.1): for every two documents the statement FlatRows returns true. The three tables are tied to the program's text by the given ties; no further condition.
-/
import Derived.Test.YtnmpapmjkihfcaaDoorUtfLaid
import Derived.Test.YtnmpapmjkihfcaaDoorCards
import Derived.Test.YtnmpapmjkihfcaaDoorTie
import Derived.Test.YtnmpapmjkihfcaaDoorFlatRowsA
import Derived.Test.YtnmpapmjkihfcaaDoorFlatRowsB
import Derived.Test.YtnmpapmjkihfcaaDoorFlatRowsC
set_option linter.all false
namespace Go.Proofs.YtnmpapmjkihfcaaDoor.flatRows
open Go.ChangeShapes Go.WideShapes Go.ChangeAt Go.RowKit Go.PlainAid Go.Proofs.YtnmpapmjkihfcaaDoor

set_option maxRecDepth 100000 in
set_option maxHeartbeats 4000000 in
theorem walk (c : List Value) (d : Dc) (c' : List Value) (d' : Dc) (w : World) (g : DcAt w c d) (g' : DcAt w c' d') (htb : Tabs w) :
    Calls Tryd.prog 5 #[.agg c.toArray, .agg c'.toArray] w fun e w' => e = .returned (.bool true) ∧ Below w.heap.size w w' := by
  by_cases hall : fwD d = true ∧ fwD d' = true ∧ drt d = true ∧ drt d' = true
  · obtain ⟨hf, hf', hr, hr'⟩ := hall
    cases e1 : dfrc d
    · cases e2 : dfrc d'
      · exact coreFF false false rfl rfl d d' c c' w g g' htb hf hf' hr hr' e1 e2
      · exact coreFT false true rfl rfl d d' c c' w g g' htb hf hf' hr hr' e1 e2
    · exact coreT true (dfrc d') rfl d d' c c' w g g' htb hf hf' hr hr' e1 rfl
  have HF0 : Hid (∀ W, Below w.heap.size w W → Calls Tryd.prog 13 #[.agg c.toArray] W fun e w' => e = .returned (.bool (fwD d)) ∧ Below w.heap.size w w') := Lib.hid fun W hb => (fwD_any d c W (g.bel hb)).mono fun e w' ⟨h1, h2⟩ => ⟨h1, hb.trans (h2.mono hb.size)⟩
  have HF1 : Hid (∀ W, Below w.heap.size w W → Calls Tryd.prog 13 #[.agg c'.toArray] W fun e w' => e = .returned (.bool (fwD d')) ∧ Below w.heap.size w w') := Lib.hid fun W hb => (fwD_any d' c' W (g'.bel hb)).mono fun e w' ⟨h1, h2⟩ => ⟨h1, hb.trans (h2.mono hb.size)⟩
  have HT : Hid (∀ W, Below w.heap.size w W → Calls Tryd.prog 12 #[] W fun e w' => e = .returned (.bool true) ∧ Below w.heap.size w w') := Lib.hid fun W hb => (told16_any W (htb.below hb)).mono fun e w' ⟨h1, h2⟩ => ⟨h1, hb.trans (h2.mono hb.size)⟩
  have HM0 : Hid (fwD d = true → ∀ W, Below w.heap.size w W → Calls Tryd.prog 14 #[.agg c.toArray] W fun e w' => e = .returned (.bool (drt d)) ∧ Below w.heap.size w w') := Lib.hid fun hf W hb => by
    obtain ⟨o1, o2⟩ := fwD_ok hf
    exact (rdmay_any d (by omega) (dtz_mono (show 100 ≤ 1048576 by omega) _ o2) _ W (g.bel hb)).mono fun e w' ⟨h1, h2⟩ => ⟨h1, hb.trans (h2.mono hb.size)⟩
  have HM1 : Hid (fwD d' = true → ∀ W, Below w.heap.size w W → Calls Tryd.prog 14 #[.agg c'.toArray] W fun e w' => e = .returned (.bool (drt d')) ∧ Below w.heap.size w w') := Lib.hid fun hf W hb => by
    obtain ⟨o1, o2⟩ := fwD_ok hf
    exact (rdmay_any d' (by omega) (dtz_mono (show 100 ≤ 1048576 by omega) _ o2) _ W (g'.bel hb)).mono fun e w' ⟨h1, h2⟩ => ⟨h1, hb.trans (h2.mono hb.size)⟩
  obtain ⟨k, n, t, lv, rfl⟩ : ∃ k n t lv, c = [.int .i64 k, .int .i64 n, .string t, lv] := by
    cases d with
    | mk k n t l => obtain ⟨lv, cs, rfl, -⟩ := g.inv; exact ⟨_, _, _, _, rfl⟩
  obtain ⟨k', n', t', lv', rfl⟩ : ∃ k n t lv, c' = [.int .i64 k, .int .i64 n, .string t, lv] := by
    cases d' with
    | mk k n t l => obtain ⟨lv, cs, rfl, -⟩ := g'.inv; exact ⟨_, _, _, _, rfl⟩
  obtain ⟨Z, hZ⟩ : ∃ Z, Z = (w.alloc (.cells #[.int .i64 k, .int .i64 n, .string t, lv] 26)).alloc (.cells #[.int .i64 k', .int .i64 n', .string t', lv'] 26) := ⟨_, rfl⟩
  have hbW : Below w.heap.size w Z := by rw [hZ]; exact (below1 _ _).alloc (by simp) _
  have HZ0 : Hid (Below Z.heap.size Z ((w.alloc (.cells #[.int .i64 k, .int .i64 n, .string t, lv] 26)).alloc (.cells #[.int .i64 k', .int .i64 n', .string t', lv'] 26))) := Lib.hid (by rw [← hZ]; exact Below.refl _ _)
  have UP := Lib.hid (fun W (h : Below Z.heap.size Z W) => hbW.trans (h.mono hbW.size))
  have CC := Lib.hid (fun W (hb : Below Z.heap.size Z W) => two_cells (by rw [hZ] at hb; exact hb))
  have GF : Hid (∀ W, Below Z.heap.size Z W → Calls Tryd.prog 13 #[.agg #[.int .i64 k, .int .i64 n, .string t, lv]] W fun e w' => e = .returned (.bool (fwD d)) ∧ Below Z.heap.size Z w') := Lib.hid fun W hb => (fwD_any d _ W (g.bel (UP.out W hb))).mono fun e w' ⟨h1, h2⟩ => ⟨h1, hb.trans (h2.mono hb.size)⟩
  have GF' : Hid (∀ W, Below Z.heap.size Z W → Calls Tryd.prog 13 #[.agg #[.int .i64 k', .int .i64 n', .string t', lv']] W fun e w' => e = .returned (.bool (fwD d')) ∧ Below Z.heap.size Z w') := Lib.hid fun W hb => (fwD_any d' _ W (g'.bel (UP.out W hb))).mono fun e w' ⟨h1, h2⟩ => ⟨h1, hb.trans (h2.mono hb.size)⟩
  have GM : Hid (fwD d = true → ∀ W, Below Z.heap.size Z W → Calls Tryd.prog 14 #[.agg #[.int .i64 k, .int .i64 n, .string t, lv]] W fun e w' => e = .returned (.bool (drt d)) ∧ Below Z.heap.size Z w') := Lib.hid fun hf W hb => by
    obtain ⟨o1, o2⟩ := fwD_ok hf
    exact (rdmay_any d (by omega) (dtz_mono (show 100 ≤ 1048576 by omega) _ o2) _ W (g.bel (UP.out W hb))).mono fun e w' ⟨h1, h2⟩ => ⟨h1, hb.trans (h2.mono hb.size)⟩
  have GM' : Hid (fwD d' = true → ∀ W, Below Z.heap.size Z W → Calls Tryd.prog 14 #[.agg #[.int .i64 k', .int .i64 n', .string t', lv']] W fun e w' => e = .returned (.bool (drt d')) ∧ Below Z.heap.size Z w') := Lib.hid fun hf W hb => by
    obtain ⟨o1, o2⟩ := fwD_ok hf
    exact (rdmay_any d' (by omega) (dtz_mono (show 100 ≤ 1048576 by omega) _ o2) _ W (g'.bel (UP.out W hb))).mono fun e w' ⟨h1, h2⟩ => ⟨h1, hb.trans (h2.mono hb.size)⟩
  obtain ⟨⟨d0, d1, d2, d3⟩, ⟨f0, f1, f2, f3⟩⟩ := CC.out _ HZ0.out
  clear g g' htb HF0 HF1 HM0 HM1 hZ hbW
  cases h1 : fwD d
  · rw [h1] at GF
    clear hall h1 GM
    go_enter Tryd.func5, Tryd.ntmps5
    go_wp2_with fail
    refine (GF.out _ HZ0.out).mono ?_
    rintro e w1 ⟨rfl, ht⟩
    have Hw1 := Lib.hid ht
    clear ht d0 d1 d2 d3 f0 f1 f2 f3
    obtain ⟨⟨d0, d1, d2, d3⟩, ⟨f0, f1, f2, f3⟩⟩ := CC.out _ Hw1.out
    go_wp2_with fail
    refine (HT.out _ (UP.out _ Hw1.out)).mono ?_
    rintro e wt ⟨rfl, ht⟩
    have HBT := Lib.hid ht
    clear ht
    go_wp2_with fail
    go_ret
    exact ⟨rfl, HBT.out⟩
  rw [h1] at GF
  have GM1 := Lib.hid (GM.out h1)
  clear GM
  cases h2 : fwD d'
  · rw [h2] at GF'
    clear hall h1 h2 GM'
    go_enter Tryd.func5, Tryd.ntmps5
    go_wp2_with fail
    refine (GF.out _ HZ0.out).mono ?_
    rintro e w1 ⟨rfl, ht⟩
    have Hw1 := Lib.hid ht
    clear ht d0 d1 d2 d3 f0 f1 f2 f3
    obtain ⟨⟨d0, d1, d2, d3⟩, ⟨f0, f1, f2, f3⟩⟩ := CC.out _ Hw1.out
    go_wp2_with fail
    refine (GF'.out _ Hw1.out).mono ?_
    rintro e w2 ⟨rfl, ht⟩
    have Hw2 := Lib.hid ht
    clear ht d0 d1 d2 d3 f0 f1 f2 f3
    obtain ⟨⟨d0, d1, d2, d3⟩, ⟨f0, f1, f2, f3⟩⟩ := CC.out _ Hw2.out
    go_wp2_with fail
    refine (HT.out _ (UP.out _ Hw2.out)).mono ?_
    rintro e wt ⟨rfl, ht⟩
    have HBT := Lib.hid ht
    clear ht
    go_wp2_with fail
    go_ret
    exact ⟨rfl, HBT.out⟩
  rw [h2] at GF'
  have GM2 := Lib.hid (GM'.out h2)
  clear GM'
  cases h3 : drt d
  · rw [h3] at GM1
    clear hall h1 h2 h3
    go_enter Tryd.func5, Tryd.ntmps5
    go_wp2_with fail
    refine (GF.out _ HZ0.out).mono ?_
    rintro e w1 ⟨rfl, ht⟩
    have Hw1 := Lib.hid ht
    clear ht d0 d1 d2 d3 f0 f1 f2 f3
    obtain ⟨⟨d0, d1, d2, d3⟩, ⟨f0, f1, f2, f3⟩⟩ := CC.out _ Hw1.out
    go_wp2_with fail
    refine (GF'.out _ Hw1.out).mono ?_
    rintro e w2 ⟨rfl, ht⟩
    have Hw2 := Lib.hid ht
    clear ht d0 d1 d2 d3 f0 f1 f2 f3
    obtain ⟨⟨d0, d1, d2, d3⟩, ⟨f0, f1, f2, f3⟩⟩ := CC.out _ Hw2.out
    go_wp2_with fail
    refine (GM1.out _ Hw2.out).mono ?_
    rintro e w3 ⟨rfl, ht⟩
    have Hw3 := Lib.hid ht
    clear ht d0 d1 d2 d3 f0 f1 f2 f3
    obtain ⟨⟨d0, d1, d2, d3⟩, ⟨f0, f1, f2, f3⟩⟩ := CC.out _ Hw3.out
    go_wp2_with fail
    refine (HT.out _ (UP.out _ Hw3.out)).mono ?_
    rintro e wt ⟨rfl, ht⟩
    have HBT := Lib.hid ht
    clear ht
    go_wp2_with fail
    go_ret
    exact ⟨rfl, HBT.out⟩
  rw [h3] at GM1
  cases h4 : drt d'
  · rw [h4] at GM2
    clear hall h1 h2 h3 h4
    go_enter Tryd.func5, Tryd.ntmps5
    go_wp2_with fail
    refine (GF.out _ HZ0.out).mono ?_
    rintro e w1 ⟨rfl, ht⟩
    have Hw1 := Lib.hid ht
    clear ht d0 d1 d2 d3 f0 f1 f2 f3
    obtain ⟨⟨d0, d1, d2, d3⟩, ⟨f0, f1, f2, f3⟩⟩ := CC.out _ Hw1.out
    go_wp2_with fail
    refine (GF'.out _ Hw1.out).mono ?_
    rintro e w2 ⟨rfl, ht⟩
    have Hw2 := Lib.hid ht
    clear ht d0 d1 d2 d3 f0 f1 f2 f3
    obtain ⟨⟨d0, d1, d2, d3⟩, ⟨f0, f1, f2, f3⟩⟩ := CC.out _ Hw2.out
    go_wp2_with fail
    refine (GM1.out _ Hw2.out).mono ?_
    rintro e w3 ⟨rfl, ht⟩
    have Hw3 := Lib.hid ht
    clear ht d0 d1 d2 d3 f0 f1 f2 f3
    obtain ⟨⟨d0, d1, d2, d3⟩, ⟨f0, f1, f2, f3⟩⟩ := CC.out _ Hw3.out
    go_wp2_with fail
    refine (GM2.out _ Hw3.out).mono ?_
    rintro e w4 ⟨rfl, ht⟩
    have Hw4 := Lib.hid ht
    clear ht d0 d1 d2 d3 f0 f1 f2 f3
    obtain ⟨⟨d0, d1, d2, d3⟩, ⟨f0, f1, f2, f3⟩⟩ := CC.out _ Hw4.out
    go_wp2_with fail
    refine (HT.out _ (UP.out _ Hw4.out)).mono ?_
    rintro e wt ⟨rfl, ht⟩
    have HBT := Lib.hid ht
    clear ht
    go_wp2_with fail
    go_ret
    exact ⟨rfl, HBT.out⟩
  exact absurd ⟨h1, h2, h3, h4⟩ hall
set_option maxRecDepth 100000 in
theorem lifted (os : Os) (started : os.Started) (H : Type) (enc : TypeId × Value → H) :
    ReturnsInHanded {} Tryd.checked os 5 .any (fun w args => (Rows.flatRowsSpec.pre enc Tryd.prog Tryd.f5 [] false w args ∧ laidMetH Tryd.prog utfLaid w) ∧ sizedMet enc Tryd.prog Tryd.f5 (OpenSpec.ofChange Rows.flatRowsSpec) false w args)
      (Rows.flatRowsSpec.post enc Tryd.prog Tryd.f5 false true false false) := by
  refine returnsInHanded_of_change_and (C := Tryd.checked) (X := fun w _ => laidMetH Tryd.prog utfLaid w) (fun _ _ _ hh h => h.of_heap hh) own started (by kernel_rfl) Tryd.func5
    (ChangeSpec.witness_shaped (enc := enc) (C := Tryd.checked) (os := os) (X := fun w _ => laidMetH Tryd.prog utfLaid w) false (World.doorLaid Tryd.prog 400 os) #[.agg #[.int .i64 0, .int .i64 0, .string ByteArray.empty, .slice none 0 0], .agg #[.int .i64 0, .int .i64 0, .string ByteArray.empty, .slice none 0 0]] 8 rfl (World.shaped_of_RefB (by kernel_rfl) (by kernel_rfl)) (by kernel_rfl) (by kernel_rfl) (by kernel_rfl) (door_met os _)) ?_
  intro W base args ds gs before hval0 hW _ _ hL _
  have hval : ∀ (j : Nat) t v, Tryd.f5.params[j]? = some t → args[j]? = some v → Value.okWide Tryd.prog W .any base t v := hval0
  have hW' := hW
  obtain ⟨p, q, hA0, hV, rfl, hfz, hnd⟩ := hW
  have hA : DataW.TrodAll enc Tryd.prog W 0 (fun _ => true) true Tryd.f5.params.toList args.toList ds p := hA0
  rw [Tryd.params5] at hA hval
  obtain ⟨v0, vs0, d0, ds0, p0, q0, hargs, rfl, rfl, h0, r0⟩ := trodAll_cons hA
  obtain ⟨v1, vs1, d1, ds1, p1, q1, rfl, rfl, rfl, h1, r1⟩ := trodAll_cons r0
  obtain ⟨rfl, rfl, rfl⟩ := trodAll_nil r1
  obtain rfl : args = #[v0, v1] := by cases args; simp_all
  obtain ⟨rfl, rfl⟩ := trodVars_none hV
  have k0 := h0
  have lt0 : ∀ x ∈ p0, x.block < W.heap.size := by obtain ⟨m, hm⟩ := k0; exact DataW.trod_lt m _ _ _ hm
  obtain ⟨c0, n0, rfl, g0⟩ := open_doc (hval 0 26 v0 rfl rfl) h0
  have k1 := h1
  have lt1 : ∀ x ∈ p1, x.block < W.heap.size := by obtain ⟨m, hm⟩ := k1; exact DataW.trod_lt m _ _ _ hm
  obtain ⟨c1, n1, rfl, g1⟩ := open_doc (hval 1 26 v1 rfl rfl) h1
  clear hA0 hval0
  refine (walk c0 n0 c1 n1 W g0 g1 (tabs_of_laid hL)).mono fun e W' ⟨he, bel⟩ => ?_
  subst he
  exact ⟨_, rfl, _, _, _, [], _, [], hW', trodAll_mk1 (shut_bool Tryd.underlying4 _), (trodAll_cons_mk (Below.trod laidOut (by kernel_rfl) (of_decide_eq_true (by kernel_rfl)) k0 bel lt0) (trodAll_cons_mk (Below.trod laidOut (by kernel_rfl) (of_decide_eq_true (by kernel_rfl)) k1 bel lt1) trodAll_mk0)), rfl, bel.frame _, fun h => by cases h⟩
theorem over : Rows.FlatRowsSaid :=
  OpenClaim.holds_of_wide 5 Tryd.f5 rfl rfl rfl rfl rfl rfl rfl ⟨rfl, rfl, rfl, rfl, rfl⟩ rfl rfl rfl rfl rfl (by kernel_rfl) Tryd.func5 (by kernel_rfl)
    (of_decide_eq_true (by kernel_rfl)) (by unfold Func.isWrapper; first | (rw [if_pos (by decide +kernel)]; kernel_rfl) | (rw [if_neg (by decide +kernel)]; exact ⟨rfl, rfl⟩))
    (fun os started H enc _ => lifted os started H enc)
/-- THE TIED CARD. -/
theorem proved : Rows.FlatRowsCardSaid :=
  Claim7.holds_tied_plain_at .later [] [.data, .data, .data] true Rows.flatRowsCard.stood.harness false
    over (fun _ h => by cases h) (by kernel_rfl) (fun _ h => by cases h) flatRows_row_tie rfl ⟨rfl, rfl⟩ (by kernel_rfl) rfl
    (fun f fn hf hfn => by
      obtain rfl : f = 5 := Option.some.inj ((show Tryd.prog.funcNamed "galley/galleylaw16.FlatRows" = some 5 by kernel_rfl).symm.trans hf) |>.symm
      obtain rfl : fn = Tryd.f5 := (Option.some.inj (Tryd.func5.symm.trans hfn)).symm
      exact ⟨by kernel_rfl, fun j t ht => by
        rw [Tryd.params5] at ht
        have hm : t ∈ [26] := by
          have := Array.mem_of_getElem? ht
          simpa using this
        have hall : ([26].all fun u => !Tryd.prog.wantsStandIn u) = true := by kernel_rfl
        exact (show Tryd.prog.wantsStandIn t = false by simpa using List.all_eq_true.1 hall t hm)⟩)
    (by kernel_rfl)
#print axioms proved
end Go.Proofs.YtnmpapmjkihfcaaDoor.flatRows
