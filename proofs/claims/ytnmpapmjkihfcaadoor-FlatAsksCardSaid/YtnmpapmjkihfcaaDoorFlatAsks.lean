/-
  What stands on one line, and how wide it is, is what the document says (promises 16.1, 16.2): for every row of documents the statement FlatAsks returns true. The three tables are tied to the program's text by the given ties; no further condition.
-/
import Derived.Test.YtnmpapmjkihfcaaDoorUtfLaid
import Derived.Test.YtnmpapmjkihfcaaDoorCards
import Derived.Test.YtnmpapmjkihfcaaDoorTie
import Derived.Test.YtnmpapmjkihfcaaDoorBase
import Derived.Test.YtnmpapmjkihfcaaDoorDoc
import Derived.Test.YtnmpapmjkihfcaaDoorFlatTold
set_option linter.all false
namespace Go.Proofs.YtnmpapmjkihfcaaDoor.flatAsks
open Go.ChangeShapes Go.WideShapes Go.ChangeAt Go.RowKit Go.PlainAid Go.Proofs.YtnmpapmjkihfcaaDoor

theorem allL : ∀ (T : List Dc), (∀ x ∈ T, fwD x = true ∧ drt x = true) → dcntL T ≤ 500 * T.length ∧ dtzL 1048576 T ∧ drtL T = true
  | [], _ => ⟨Nat.le_refl _, trivial, rfl⟩
  | y :: t, hh => by
    obtain ⟨i1, i2, i3⟩ := allL t (fun x hx => hh x (List.mem_cons_of_mem _ hx))
    obtain ⟨h1, h2⟩ := hh y (List.mem_cons_self ..)
    obtain ⟨h3, h4⟩ := fwD_ok h1
    exact ⟨by simp only [dcntL, List.length_cons]; omega, ⟨dtz_mono (by omega) y h4, i2⟩, by simp only [drtL, h2, i3, Bool.and_self]⟩
set_option maxRecDepth 100000 in
set_option maxHeartbeats 4000000 in
theorem walk (v : Value) (T : List Dc) (w : World) (g : DrIn w (fun g => g < w.heap.size) v T) (htb : Tabs w) :
    Calls Tryd.prog 3 #[v] w fun e w' => e = .returned (.bool true) ∧ Below w.heap.size w w' := by
  have HTB := Lib.hid htb
  have HT : Hid (∀ W, Below w.heap.size w W → Calls Tryd.prog 12 #[] W fun e w' => e = .returned (.bool true) ∧ Below w.heap.size w w') := Lib.hid fun W hb => (told16_any W (HTB.out.below hb)).mono fun e w' ⟨h1, h2⟩ => ⟨h1, hb.trans (h2.mono hb.size)⟩
  have HB0 : Hid (Below w.heap.size w w) := Lib.hid (Below.refl _ _)
  have g0 := g
  obtain ⟨cs, hl, hc⟩ := g
  have hl0 := hl
  obtain ⟨a, cap, rfl, hcap, hm, -⟩ := hl0
  have HK := Lib.hid (kidsD hl hc)
  obtain ⟨N, hN⟩ : ∃ N, N = T.length := ⟨_, rfl⟩
  rw [← hN] at hcap ⊢
  have HN := Lib.hid hN
  have G : Hid (DrIn w (fun g => g < w.heap.size) (.slice a N cap) T) := Lib.hid (by rw [hN]; exact g0)
  clear hN hl hc g0 htb
  have hnl : N ≤ maxLen := by omega
  by_cases h6 : N ≤ 5
  · have g6' : ¬ (5 : Int) < (N : Int) := by omega
    go_enter Tryd.func3, Tryd.ntmps3
    go_wp2_with fail
    go_loopg [3] N (fun gn i wr => ∃ (q : Nat), gn = N - q ∧ q ≤ N ∧ i = .int .i64 (q : Int) ∧ Hid (∀ i x, i < q → T[i]? = some x → fwD x = true ∧ drt x = true) ∧ Hid (Below w.heap.size w wr))
    case atStart => exact ⟨0, rfl, Nat.zero_le _, rfl, Lib.hid (fun i x h => by omega), HB0⟩
    case round =>
      obtain ⟨q, hgn, hq, rfl, HF, HB⟩ := hrel
      by_cases hlt : q < N
      · obtain ⟨x, hx⟩ : ∃ x, T[q]? = some x := ⟨_, List.getElem?_eq_getElem (by rw [← HN.out]; exact hlt)⟩
        obtain ⟨g, o, k1, n1, t1, lv1, rfl, hxc, hce⟩ := HK.out q x hx
        have CE := Lib.hid hce
        obtain ⟨e0, e1, e2, e3⟩ := hce wr HB.out
        have HX := Lib.hid hx
        have HXC := Lib.hid (fun W hb => hxc.bel (W := W) hb)
        have HI1 : Hid (∀ W, Below w.heap.size w W → Calls Tryd.prog 13 #[.agg #[.int .i64 k1, .int .i64 n1, .string t1, lv1]] W fun e w' => e = .returned (.bool (fwD x)) ∧ Below w.heap.size w w') := Lib.hid fun W hb => (fwD_any x _ W (HXC.out W hb)).mono fun e w' ⟨h1, h2⟩ => ⟨h1, hb.trans (h2.mono hb.size)⟩
        have qn : (q : Int) < (N : Int) := by omega
        clear hce hx hxc
        cases hy : fwD x
        · rw [hy] at HI1
          go_wp2_with fail
          refine (HI1.out _ HB.out).mono ?_
          rintro e w1 ⟨rfl, hb1⟩
          have HB1 := Lib.hid hb1
          clear hb1 HI1
          go_wp2_with fail
          refine (HT.out _ HB1.out).mono ?_
          rintro e w2 ⟨rfl, hb2⟩
          have HB2 := Lib.hid hb2
          clear hb2
          go_wp2_with fail
          go_ret
          exact ⟨rfl, HB2.out⟩
        · rw [hy] at HI1
          obtain ⟨o1, o2⟩ := fwD_ok hy
          have o3 := dtz_mono (show 100 ≤ 1048576 by omega) _ o2
          have HI2 : Hid (∀ W, Below w.heap.size w W → Calls Tryd.prog 14 #[.agg #[.int .i64 k1, .int .i64 n1, .string t1, lv1]] W fun e w' => e = .returned (.bool (drt x)) ∧ Below w.heap.size w w') := Lib.hid fun W hb => (rdmay_any x (by omega) o3 _ W (HXC.out W hb)).mono fun e w' ⟨h1, h2⟩ => ⟨h1, hb.trans (h2.mono hb.size)⟩
          cases hr : drt x
          · rw [hr] at HI2
            clear o1 o2 o3
            go_wp2_with fail
            refine (HI1.out _ HB.out).mono ?_
            rintro e w1 ⟨rfl, hb1⟩
            have HB1 := Lib.hid hb1
            clear hb1 HI1 e0 e1 e2 e3
            obtain ⟨e0, e1, e2, e3⟩ := CE.out w1 HB1.out
            go_wp2_with fail
            refine (HI2.out _ HB1.out).mono ?_
            rintro e w3 ⟨rfl, hb3⟩
            have HB3 := Lib.hid hb3
            clear hb3 HI2
            go_wp2_with fail
            refine (HT.out _ HB3.out).mono ?_
            rintro e w2 ⟨rfl, hb2⟩
            have HB2 := Lib.hid hb2
            clear hb2
            go_wp2_with fail
            go_ret
            exact ⟨rfl, HB2.out⟩
          · rw [hr] at HI2
            have HPF : Hid (∀ W, Below w.heap.size w W → Calls Tryd.prog 15 #[.agg #[.int .i64 k1, .int .i64 n1, .string t1, lv1]] W fun e w' => e = .returned (.tuple #[.string (if dfrc x = true then ⟨#[]⟩ else ctx (lvs x)), .bool (!dfrc x)]) ∧ Below w.heap.size w w') := Lib.hid fun W hb => (pfflat_any x (by omega) o3 _ W (HXC.out W hb)).mono fun e w' ⟨h1, h2⟩ => ⟨h1, hb.trans (h2.mono hb.size)⟩
            have HRF : Hid (∀ W, Below w.heap.size w W → Calls Tryd.prog 16 #[.agg #[.int .i64 k1, .int .i64 n1, .string t1, lv1]] W fun e w' => e = .returned (.tuple #[.string (if dfrc x = true then ⟨#[]⟩ else ctx (lvs x)), .bool (!dfrc x)]) ∧ Below w.heap.size w w') := Lib.hid fun W hb => (rFlat_any x (by omega) hr o3 _ W (HXC.out W hb)).mono fun e w' ⟨h1, h2⟩ => ⟨h1, hb.trans (h2.mono hb.size)⟩
            have HPW : Hid (∀ W, Below w.heap.size w W → Calls Tryd.prog 17 #[.agg #[.int .i64 k1, .int .i64 n1, .string t1, lv1]] W fun e w' => e = .returned (.int .i64 (wsum (lvs x) : Int)) ∧ Below w.heap.size w w') := Lib.hid fun W hb => (pfwidth_any x (by omega) o3 _ W (HXC.out W hb) (HTB.out.below hb)).mono fun e w' ⟨h1, h2⟩ => ⟨h1, hb.trans (h2.mono hb.size)⟩
            have HRW : Hid (∀ W, Below w.heap.size w W → Calls Tryd.prog 18 #[.agg #[.int .i64 k1, .int .i64 n1, .string t1, lv1]] W fun e w' => e = .returned (.int .i64 (wsum (lvs x) : Int)) ∧ Below w.heap.size w w') := Lib.hid fun W hb => (rwidth_any 90000 (Nat.le_refl _) x (by omega) hr o3 _ W (HXC.out W hb)).mono fun e w' ⟨h1, h2⟩ => ⟨h1, hb.trans (h2.mono hb.size)⟩
            obtain ⟨S, hS⟩ : ∃ S, S = (if dfrc x = true then (⟨#[]⟩ : ByteArray) else ctx (lvs x)) := ⟨_, rfl⟩
            obtain ⟨B, hB⟩ : ∃ B, B = (!dfrc x) := ⟨_, rfl⟩
            obtain ⟨M, hM⟩ : ∃ M, M = wsum (lvs x) := ⟨_, rfl⟩
            rw [← hS, ← hB] at HPF HRF
            rw [← hM] at HPW HRW
            have HXY := Lib.hid (⟨hy, hr⟩ : fwD x = true ∧ drt x = true)
            clear o1 o2 o3 hS hB hM hy hr
            go_wp2_with fail
            refine (HI1.out _ HB.out).mono ?_
            rintro e w1 ⟨rfl, hb1⟩
            have HB1 := Lib.hid hb1
            clear hb1 HI1 e0 e1 e2 e3
            obtain ⟨e0, e1, e2, e3⟩ := CE.out w1 HB1.out
            go_wp2_with fail
            refine (HI2.out _ HB1.out).mono ?_
            rintro e w3 ⟨rfl, hb3⟩
            have HB3 := Lib.hid hb3
            clear hb3 HI2 e0 e1 e2 e3
            obtain ⟨e0, e1, e2, e3⟩ := CE.out w3 HB3.out
            go_wp2_with fail
            refine (HPF.out _ HB3.out).mono ?_
            rintro e w4 ⟨rfl, hb4⟩
            have HB4 := Lib.hid hb4
            clear hb4 e0 e1 e2 e3
            obtain ⟨e0, e1, e2, e3⟩ := CE.out w4 HB4.out
            go_wp2_with fail
            refine (HRF.out _ HB4.out).mono ?_
            rintro e w5 ⟨rfl, hb5⟩
            have HB5 := Lib.hid hb5
            clear hb5 e0 e1 e2 e3
            obtain ⟨e0, e1, e2, e3⟩ := CE.out w5 HB5.out
            have q1 : (S.toList != S.toList) = false := bne_self_eq_false _
            have q2 : (B != B) = false := bne_self_eq_false _
            have q3 : ((M : Int) != (M : Int)) = false := bne_self_eq_false _
            have CD := Lib.hid (fun W (hb : Below w.heap.size w W) => (⟨CE.out W hb, Lib.hid hb⟩ : (W.cell? ⟨g, o + q * 4, none⟩ = some (.int .i64 k1) ∧ W.cell? ⟨g, o + q * 4 + 1, none⟩ = some (.int .i64 n1) ∧ W.cell? ⟨g, o + q * 4 + 2, none⟩ = some (.string t1) ∧ W.cell? ⟨g, o + q * 4 + 3, none⟩ = some lv1) ∧ Hid (Below w.heap.size w W)))
            have HBd : Hid (Below w.heap.size w w5.drew) := Lib.hid (Below.drew HB5.out)
            go_wp2_with fail
            go_region_held3 (fun W => (W.cell? ⟨g, o + q * 4, none⟩ = some (.int .i64 k1) ∧ W.cell? ⟨g, o + q * 4 + 1, none⟩ = some (.int .i64 n1) ∧ W.cell? ⟨g, o + q * 4 + 2, none⟩ = some (.string t1) ∧ W.cell? ⟨g, o + q * 4 + 3, none⟩ = some lv1) ∧ Hid (Below w.heap.size w W)) (first | exact CD.out _ ht | exact CD.out _ HBd.out) (first
              | (go_at_call 17; (first | refine (HPW.out _ ht).mono ?_ | refine (HPW.out _ HBd.out).mono ?_); rintro e w6 ⟨rfl, ht⟩)
              | (go_at_call 18; (first | refine (HRW.out _ ht).mono ?_ | refine (HRW.out _ HBd.out).mono ?_); rintro e w7 ⟨rfl, ht⟩))
            all_goals
              have HB7 := Lib.hid ht
              clear ht e0 e1 e2 e3 HPF HRF HPW HRW
              go_wp2_with fail
              go_roundg (N - (q + 1))
            all_goals first
              | (case measure => omega)
              | skip
            all_goals
              refine ⟨q + 1, rfl, hlt, by go_num, Lib.hid (fun i z hi hz => ?_), HB7⟩
              rcases Nat.lt_or_ge i q with h | h
              · exact HF.out i z h hz
              · obtain rfl : i = q := by omega
                have := HX.out
                rw [hz] at this
                cases this
                exact HXY.out
      · obtain rfl : q = N := by omega
        have hal : dcntL T ≤ 500 * T.length ∧ dtzL 1048576 T ∧ drtL T = true := by
          have hh : ∀ x ∈ T, fwD x = true ∧ drt x = true := fun x hx => by
            obtain ⟨i, hi⟩ := List.getElem?_of_mem hx
            exact HF.out i x (by rw [HN.out]; exact (List.getElem?_eq_some_iff.1 hi).1) hi
          exact allL T hh
        rw [← HN.out] at hal
        have HP1 : Hid (∀ W, Below w.heap.size w W → Calls Tryd.prog 19 #[.slice a q cap] W fun e w' => e = .returned (.int .i64 (fsum (lvsL T) : Int)) ∧ Below w.heap.size w w') := Lib.hid fun W hb => (pffirst_any T (by omega) hal.2.1 _ W (G.out.bel hb) (HTB.out.below hb)).mono fun e w' ⟨h1, h2⟩ => ⟨h1, hb.trans (h2.mono hb.size)⟩
        have HR1 : Hid (∀ W, Below w.heap.size w W → Calls Tryd.prog 20 #[.slice a q cap] W fun e w' => e = .returned (.int .i64 (fsum (lvsL T) : Int)) ∧ Below w.heap.size w w') := Lib.hid fun W hb => (rfirst_any T (by omega) hal.2.2 hal.2.1 _ W (G.out.bel hb)).mono fun e w' ⟨h1, h2⟩ => ⟨h1, hb.trans (h2.mono hb.size)⟩
        obtain ⟨M, hM⟩ : ∃ M, M = fsum (lvsL T) := ⟨_, rfl⟩
        rw [← hM] at HP1 HR1
        have q3 : ((M : Int) == (M : Int)) = true := beq_self_eq_true _
        clear hal hM
        go_wp2_with fail
        refine (HT.out _ HB.out).mono ?_
        rintro e w1 ⟨rfl, hb1⟩
        have HB1 := Lib.hid hb1
        clear hb1
        go_wp2_with fail
        refine (HP1.out _ HB1.out).mono ?_
        rintro e w2 ⟨rfl, hb2⟩
        have HB2 := Lib.hid hb2
        clear hb2
        go_wp2_with fail
        refine (HR1.out _ HB2.out).mono ?_
        rintro e w3 ⟨rfl, hb3⟩
        have HB3 := Lib.hid hb3
        clear hb3
        go_wp2_with fail
        go_ret
        exact ⟨rfl, HB3.out⟩
  · have g6 : (5 : Int) < (N : Int) := by omega
    go_enter Tryd.func3, Tryd.ntmps3
    go_wp2_with fail
    refine (HT.out _ HB0.out).mono ?_
    rintro e w2 ⟨rfl, hb2⟩
    have HB2 := Lib.hid hb2
    clear hb2
    go_wp2_with fail
    go_ret
    exact ⟨rfl, HB2.out⟩
set_option maxRecDepth 100000 in
theorem lifted (os : Os) (started : os.Started) (H : Type) (enc : TypeId × Value → H) :
    ReturnsInHanded {} Tryd.checked os 3 .any (fun w args => (Rows.flatAsksSpec.pre enc Tryd.prog Tryd.f3 [] false w args ∧ laidMetH Tryd.prog utfLaid w) ∧ sizedMet enc Tryd.prog Tryd.f3 (OpenSpec.ofChange Rows.flatAsksSpec) false w args)
      (Rows.flatAsksSpec.post enc Tryd.prog Tryd.f3 false true false false) := by
  refine returnsInHanded_of_change_and (C := Tryd.checked) (X := fun w _ => laidMetH Tryd.prog utfLaid w) (fun _ _ _ hh h => h.of_heap hh) own started (by kernel_rfl) Tryd.func3
    (ChangeSpec.witness_shaped (enc := enc) (C := Tryd.checked) (os := os) (X := fun w _ => laidMetH Tryd.prog utfLaid w) false (World.doorLaid Tryd.prog 400 os) #[.slice none 0 0] 8 rfl (World.shaped_of_RefB (by kernel_rfl) (by kernel_rfl)) (by kernel_rfl) (by kernel_rfl) (by kernel_rfl) (door_met os _)) ?_
  intro W base args ds gs before hval0 hW _ _ hL _
  have hval : ∀ (j : Nat) t v, Tryd.f3.params[j]? = some t → args[j]? = some v → Value.okWide Tryd.prog W .any base t v := hval0
  have hW' := hW
  obtain ⟨p, q, hA0, hV, rfl, hfz, hnd⟩ := hW
  have hA : DataW.TrodAll enc Tryd.prog W 0 (fun _ => true) true Tryd.f3.params.toList args.toList ds p := hA0
  rw [Tryd.params3] at hA hval
  obtain ⟨v0, vs0, d0, ds0, p0, q0, hargs, rfl, rfl, h0, r0⟩ := trodAll_cons hA
  obtain ⟨rfl, rfl, rfl⟩ := trodAll_nil r0
  obtain rfl : args = #[v0] := by cases args; simp_all
  obtain ⟨rfl, rfl⟩ := trodVars_none hV
  obtain ⟨a0, len0, cap0, rfl⟩ := okWide_slice Tryd.underlying22 (hval 0 22 v0 rfl rfl)
  have k0 := h0
  have lt0 : ∀ x ∈ p0, x.block < W.heap.size := by obtain ⟨m, hm⟩ := k0; exact DataW.trod_lt m _ _ _ hm
  obtain ⟨z0, w0⟩ : ∃ T : List Dc, DrIn W (fun g => g < W.heap.size) (.slice a0 len0 cap0) T := by
    obtain ⟨fuel, hf⟩ := h0
    exact open_dcs hf
  clear hA0 hval0
  refine (walk (.slice a0 len0 cap0) z0 W w0 (tabs_of_laid hL)).mono fun e W' ⟨he, bel⟩ => ?_
  subst he
  exact ⟨_, rfl, _, _, _, [], _, [], hW', trodAll_mk1 (shut_bool Tryd.underlying4 _), (trodAll_cons_mk (Below.trod laidOut (by kernel_rfl) (of_decide_eq_true (by kernel_rfl)) k0 bel lt0) trodAll_mk0), rfl, bel.frame _, fun h => by cases h⟩
theorem over : Rows.FlatAsksSaid :=
  OpenClaim.holds_of_wide 3 Tryd.f3 rfl rfl rfl rfl rfl rfl rfl ⟨rfl, rfl, rfl, rfl, rfl⟩ rfl rfl rfl rfl rfl (by kernel_rfl) Tryd.func3 (by kernel_rfl)
    (of_decide_eq_true (by kernel_rfl)) (by unfold Func.isWrapper; first | (rw [if_pos (by decide +kernel)]; kernel_rfl) | (rw [if_neg (by decide +kernel)]; exact ⟨rfl, rfl⟩))
    (fun os started H enc _ => lifted os started H enc)
/-- THE TIED CARD. -/
theorem proved : Rows.FlatAsksCardSaid :=
  Claim7.holds_tied_plain_at .later [] [.data, .data, .data] true Rows.flatAsksCard.stood.harness false
    over (fun _ h => by cases h) (by kernel_rfl) (fun _ h => by cases h) flatAsks_row_tie rfl ⟨rfl, rfl⟩ (by kernel_rfl) rfl
    (fun f fn hf hfn => by
      obtain rfl : f = 3 := Option.some.inj ((show Tryd.prog.funcNamed "galley/galleylaw16.FlatAsks" = some 3 by kernel_rfl).symm.trans hf) |>.symm
      obtain rfl : fn = Tryd.f3 := (Option.some.inj (Tryd.func3.symm.trans hfn)).symm
      exact ⟨by kernel_rfl, fun j t ht => by
        rw [Tryd.params3] at ht
        have hm : t ∈ [22] := by
          have := Array.mem_of_getElem? ht
          simpa using this
        have hall : ([22].all fun u => !Tryd.prog.wantsStandIn u) = true := by kernel_rfl
        exact (show Tryd.prog.wantsStandIn t = false by simpa using List.all_eq_true.1 hall t hm)⟩)
    (by kernel_rfl)
#print axioms proved
end Go.Proofs.YtnmpapmjkihfcaaDoor.flatAsks
