/-
  Makers make what the document says (promise 15.1): for every row of documents, every text and every number the statement DocMakes returns true. No condition.
-/
import Derived.Test.YtnmpapmjkihfcaaBase
import Derived.Test.YtnmpapmjkihfcaaDoc
import Derived.Test.YtnmpapmjkihfcaaDocTold
import Derived.Test.YtnmpapmjkihfcaaRefDocD
import Derived.Test.YtnmpapmjkihfcaaRefDocS
import Derived.Deep.LoopGhost
set_option linter.all false
namespace Go.Proofs.Ytnmpapmjkihfcaa.docMakes
open Go.ChangeShapes Go.WideShapes Go.RowKit Go.PlainAid

/-- Few, all of them: how many parts, how long their texts. -/
theorem fewL : ∀ {l : List Dc}, (∀ x ∈ l, fwD x = true) → dcntL l ≤ 500 * l.length ∧ dtzL 1048576 l
  | [], _ => ⟨Nat.le_refl _, trivial⟩
  | x :: l, h => by
    obtain ⟨a, b⟩ := fewL (fun y hy => h y (List.mem_cons_of_mem _ hy))
    obtain ⟨c, d⟩ := fwD_ok (h x (List.mem_cons_self ..))
    refine ⟨by simp only [dcntL, List.length_cons]; omega, dtz_mono (by omega) x d, b⟩
set_option maxRecDepth 100000 in
set_option maxHeartbeats 4000000 in
theorem walk (v : Value) (T : List Dc) (t : ByteArray) (wt : t.size ≤ maxLen) (n : Int) (w : World) (g : DrIn w (fun g => g < w.heap.size) v T) :
    Calls Try.prog 4 #[v, .string t, .int .i64 n] w fun e w' => e = .returned (.bool true) ∧ Below w.heap.size w w' := by
  have HT : Hid (∀ W, Below w.heap.size w W → Calls Try.prog 8 #[] W fun e w' => e = .returned (.bool true) ∧ Below w.heap.size w w') := Lib.hid fun W hb => (told15_any W).mono fun e w' ⟨h1, h2⟩ => ⟨h1, hb.trans (h2.mono hb.size)⟩
  have HB0 : Hid (Below w.heap.size w w) := Lib.hid (Below.refl _ _)
  have g0 := g
  obtain ⟨cs, hl, hc⟩ := g
  have hl0 := hl
  obtain ⟨a, cap, rfl, hcap, hm, -⟩ := hl0
  have HK := Lib.hid (kidsD hl hc)
  obtain ⟨N, hN⟩ : ∃ N, N = T.length := ⟨_, rfl⟩
  rw [← hN] at hcap ⊢
  have HN := Lib.hid hN
  have G : Hid (DrIn w (fun g => g < w.heap.size) (.slice a N cap) T) := Lib.hid (by rw [hN]; exact g0)
  clear hN hl hc g0
  have hnl : N ≤ maxLen := by omega
  by_cases h6 : N ≤ 6
  · have g6 : decide ((6 : Int) < (N : Int)) = false := by simp; omega
    by_cases h1 : t.size ≤ 100
    · have g1 : ¬ (100 : Int) < (t.size : Int) := by omega
      have g6' : ¬ (6 : Int) < (N : Int) := by omega
      go_enter Try.func4, Try.ntmps4
      go_wp2_with fail
      go_loopg [7] N (fun gn i wr => ∃ (q : Nat), gn = N - q ∧ q ≤ N ∧ i = .int .i64 (q : Int) ∧ Hid (∀ i x, i < q → T[i]? = some x → fwD x = true) ∧ Hid (Below w.heap.size w wr))
      case atStart => exact ⟨0, rfl, Nat.zero_le _, rfl, Lib.hid (fun i x h => by omega), HB0⟩
      case round =>
        obtain ⟨q, hgn, hq, rfl, HF, HB⟩ := hrel
        by_cases hlt : q < N
        · obtain ⟨x, hx⟩ : ∃ x, T[q]? = some x := ⟨_, List.getElem?_eq_getElem (by rw [← HN.out]; exact hlt)⟩
          obtain ⟨g, o, k1, n1, t1, lv1, rfl, hxc, hce⟩ := HK.out q x hx
          obtain ⟨e0, e1, e2, e3⟩ := hce wr HB.out
          have HI1 := Lib.hid (fwD_any x _ wr (hxc.bel HB.out))
          have HX := Lib.hid hx
          have qn : (q : Int) < (N : Int) := by omega
          obtain ⟨y, hy⟩ : ∃ y, y = fwD x := ⟨_, rfl⟩
          rw [← hy] at HI1
          have HY := Lib.hid hy
          clear hce hx hy hxc
          go_wp2_with fail
          refine HI1.out.mono ?_
          rintro e w1 ⟨rfl, hb1⟩
          have HB1 := Lib.hid (HB.out.trans (hb1.mono HB.out.size))
          clear hb1 HI1
          cases y
          · go_wp2_with fail
            refine (HT.out _ HB1.out).mono ?_
            rintro e w2 ⟨rfl, hb2⟩
            have HB2 := Lib.hid hb2
            clear hb2
            go_wp2_with fail
            go_ret
            exact ⟨rfl, HB2.out⟩
          · go_wp2_with fail
            go_roundg (N - (q + 1))
            case measure => omega
            case rel =>
              refine ⟨q + 1, rfl, hlt, by go_num, Lib.hid (fun i z hi hz => ?_), HB1⟩
              rcases Nat.lt_or_ge i q with h | h
              · exact HF.out i z h hz
              · obtain rfl : i = q := by omega
                have := HX.out
                rw [hz] at this
                cases this
                exact HY.out.symm
        · obtain rfl : q = N := by omega
          have hfew := fewL (l := T) (fun x hx => by
            obtain ⟨i, hi⟩ := List.getElem?_of_mem hx
            exact HF.out i x (by rw [HN.out]; exact (List.getElem?_eq_some_iff.1 hi).1) hi)
          rw [← HN.out] at hfew
          have hd : dcntL T ≤ 3000 := by omega
          have HSm : Hid (∀ x, dcnt x ≤ 5000 → ∀ c c' W, Below w.heap.size w W → DcAt W c x → DcAt W c' x → Calls Try.prog 15 #[.agg c.toArray, .agg c'.toArray] W fun e w' => e = .returned (.bool true) ∧ Below w.heap.size w w') := Lib.hid fun x hx c c' W hb h1 h2 => (rdsame_any 5000 (by omega) x hx c c' W h1 h2).mono fun e w' ⟨h1, h2⟩ => ⟨h1, hb.trans (h2.mono hb.size)⟩
          have HM1 : Hid (∀ W, Below w.heap.size w W → Calls Try.prog 16 #[.string t] W fun e w' => ∃ a c, e = .returned (.agg #[.int .i64 1, .int .i64 0, .string t, .slice a 0 c]) ∧ Below w.heap.size w w' ∧ DcAt w' [.int .i64 1, .int .i64 0, .string t, .slice a 0 c] (.mk 1 0 t [])) := Lib.hid fun W hb => (text_any t (by omega) W (fun _ => False)).mono fun e w' h => by
            obtain ⟨a, c, q1, q2, q3⟩ := h.sl
            exact ⟨a, c, q1, hb.trans (q2.mono hb.size), q3.bare⟩
          have HM5 : Hid (∀ W, Below w.heap.size w W → Calls Try.prog 17 #[.slice a q cap] W fun e w' => ∃ a c, e = .returned (.agg #[.int .i64 5, .int .i64 0, .string ⟨#[]⟩, .slice a q c]) ∧ Below w.heap.size w w' ∧ DcAt w' [.int .i64 5, .int .i64 0, .string ⟨#[]⟩, .slice a q c] (.mk 5 0 ⟨#[]⟩ T)) := Lib.hid fun W hb => (cat_any T (by omega) hfew.2 _ W (fun g => g < W.heap.size) (fun _ h => h) (G.out.bel hb)).mono fun e w' h => by
            obtain ⟨a, c, q1, q2, q3⟩ := h.sl
            rw [← HN.out] at q1 q3
            exact ⟨a, c, q1, hb.trans (q2.mono hb.size), q3.wide (fun g hg _ => hg)⟩
          have HM6 : Hid (∀ W, Below w.heap.size w W → Calls Try.prog 18 #[.int .i64 n, .slice a q cap] W fun e w' => ∃ a c, e = .returned (.agg #[.int .i64 6, .int .i64 n, .string ⟨#[]⟩, .slice a q c]) ∧ Below w.heap.size w w' ∧ DcAt w' [.int .i64 6, .int .i64 n, .string ⟨#[]⟩, .slice a q c] (.mk 6 n ⟨#[]⟩ T)) := Lib.hid fun W hb => (nest_any T (by omega) hfew.2 n _ W (fun g => g < W.heap.size) (fun _ h => h) (G.out.bel hb)).mono fun e w' h => by
            obtain ⟨a, c, q1, q2, q3⟩ := h.sl
            rw [← HN.out] at q1 q3
            exact ⟨a, c, q1, hb.trans (q2.mono hb.size), q3.wide (fun g hg _ => hg)⟩
          have HM7 : Hid (∀ W, Below w.heap.size w W → Calls Try.prog 19 #[.slice a q cap] W fun e w' => ∃ a c, e = .returned (.agg #[.int .i64 7, .int .i64 0, .string ⟨#[]⟩, .slice a q c]) ∧ Below w.heap.size w w' ∧ DcAt w' [.int .i64 7, .int .i64 0, .string ⟨#[]⟩, .slice a q c] (.mk 7 0 ⟨#[]⟩ T)) := Lib.hid fun W hb => (group_any T (by omega) hfew.2 _ W (fun g => g < W.heap.size) (fun _ h => h) (G.out.bel hb)).mono fun e w' h => by
            obtain ⟨a, c, q1, q2, q3⟩ := h.sl
            rw [← HN.out] at q1 q3
            exact ⟨a, c, q1, hb.trans (q2.mono hb.size), q3.wide (fun g hg _ => hg)⟩
          have HM8 : Hid (∀ W, Below w.heap.size w W → Calls Try.prog 20 #[.slice a q cap] W fun e w' => ∃ a c, e = .returned (.agg #[.int .i64 7, .int .i64 1, .string ⟨#[]⟩, .slice a q c]) ∧ Below w.heap.size w w' ∧ DcAt w' [.int .i64 7, .int .i64 1, .string ⟨#[]⟩, .slice a q c] (.mk 7 1 ⟨#[]⟩ T)) := Lib.hid fun W hb => (broken_any2 T (by omega) hfew.2 _ W (fun g => g < W.heap.size) (fun _ h => h) (G.out.bel hb)).mono fun e w' h => by
            obtain ⟨a, c, q1, q2, q3⟩ := h.sl
            rw [← HN.out] at q1 q3
            exact ⟨a, c, q1, hb.trans (q2.mono hb.size), q3.wide (fun g hg _ => hg)⟩
          have HD : Hid (∀ W k n t, Below w.heap.size w W → DcAt W [.int .i64 k, .int .i64 n, .string t, .slice a q cap] (.mk k n t T)) := Lib.hid fun W k n t hb => (G.out.bel hb).dc k n t
          have HCn : Hid (∀ k n t, dcnt (.mk k n t T) ≤ 5000) := Lib.hid fun k n t => by simp only [dcnt]; omega
          clear hfew hd
          go_wp2_with fail
          refine (HT.out _ HB.out).mono ?_
          rintro e w1 ⟨rfl, hb1⟩
          have HB1 := Lib.hid hb1
          clear hb1
          go_wp2_with fail
          refine (HM1.out _ HB1.out).mono ?_
          rintro e w2 ⟨a2, c2, rfl, hb2, hd2⟩
          have HB2 := Lib.hid hb2
          have HD2 := Lib.hid hd2
          clear hb2 hd2
          go_wp2_with fail
          refine (HSm.out (.mk 1 0 t []) (by simp [dcnt, dcntL]) [.int .i64 1, .int .i64 0, .string t, .slice a2 0 c2] [.int .i64 1, .int .i64 0, .string t, .slice none 0 0] _ HB2.out HD2.out (leaf_at _ _ _ _ _)).mono ?_
          rintro e w3 ⟨rfl, hb3⟩
          have HB3 := Lib.hid hb3
          clear hb3
          go_wp2_with fail
          refine (HM5.out _ HB3.out).mono ?_
          rintro e w4 ⟨a4, c4, rfl, hb4, hd4⟩
          have HB4 := Lib.hid hb4
          have HD4 := Lib.hid hd4
          clear hb4 hd4
          go_wp2_with fail
          refine (HSm.out (.mk 5 0 ⟨#[]⟩ T) (HCn.out _ _ _) [.int .i64 5, .int .i64 0, .string ⟨#[]⟩, .slice a4 q c4] [.int .i64 5, .int .i64 0, .string ⟨#[]⟩, .slice a q cap] _ HB4.out HD4.out (HD.out _ _ _ _ HB4.out)).mono ?_
          rintro e w5 ⟨rfl, hb5⟩
          have HB5 := Lib.hid hb5
          clear hb5
          go_wp2_with fail
          refine (HM6.out _ HB5.out).mono ?_
          rintro e w6 ⟨a6, c6, rfl, hb6, hd6⟩
          have HB6 := Lib.hid hb6
          have HD6 := Lib.hid hd6
          clear hb6 hd6
          go_wp2_with fail
          refine (HSm.out (.mk 6 n ⟨#[]⟩ T) (HCn.out _ _ _) [.int .i64 6, .int .i64 n, .string ⟨#[]⟩, .slice a6 q c6] [.int .i64 6, .int .i64 n, .string ⟨#[]⟩, .slice a q cap] _ HB6.out HD6.out (HD.out _ _ _ _ HB6.out)).mono ?_
          rintro e w7 ⟨rfl, hb7⟩
          have HB7 := Lib.hid hb7
          clear hb7
          go_wp2_with fail
          refine (HM7.out _ HB7.out).mono ?_
          rintro e w8 ⟨a8, c8, rfl, hb8, hd8⟩
          have HB8 := Lib.hid hb8
          have HD8 := Lib.hid hd8
          clear hb8 hd8
          go_wp2_with fail
          refine (HSm.out (.mk 7 0 ⟨#[]⟩ T) (HCn.out _ _ _) [.int .i64 7, .int .i64 0, .string ⟨#[]⟩, .slice a8 q c8] [.int .i64 7, .int .i64 0, .string ⟨#[]⟩, .slice a q cap] _ HB8.out HD8.out (HD.out _ _ _ _ HB8.out)).mono ?_
          rintro e w9 ⟨rfl, hb9⟩
          have HB9 := Lib.hid hb9
          clear hb9
          go_wp2_with fail
          refine (HM8.out _ HB9.out).mono ?_
          rintro e w10 ⟨a10, c10, rfl, hb10, hd10⟩
          have HB10 := Lib.hid hb10
          have HD10 := Lib.hid hd10
          clear hb10 hd10
          go_wp2_with fail
          refine (HSm.out (.mk 7 1 ⟨#[]⟩ T) (HCn.out _ _ _) [.int .i64 7, .int .i64 1, .string ⟨#[]⟩, .slice a10 q c10] [.int .i64 7, .int .i64 1, .string ⟨#[]⟩, .slice a q cap] _ HB10.out HD10.out (HD.out _ _ _ _ HB10.out)).mono ?_
          rintro e w11 ⟨rfl, hb11⟩
          have HB11 := Lib.hid hb11
          clear hb11
          go_wp2_with fail
          go_ret
          exact ⟨rfl, HB11.out⟩
    · have g1 : (100 : Int) < (t.size : Int) := by omega
      have g6' : ¬ (6 : Int) < (N : Int) := by omega
      go_enter Try.func4, Try.ntmps4
      go_wp2_with fail
      refine (HT.out _ HB0.out).mono ?_
      rintro e w2 ⟨rfl, hb2⟩
      have HB2 := Lib.hid hb2
      clear hb2
      go_wp2_with fail
      go_ret
      exact ⟨rfl, HB2.out⟩
  · have g6 : (6 : Int) < (N : Int) := by omega
    go_enter Try.func4, Try.ntmps4
    go_wp2_with fail
    refine (HT.out _ HB0.out).mono ?_
    rintro e w2 ⟨rfl, hb2⟩
    have HB2 := Lib.hid hb2
    clear hb2
    go_wp2_with fail
    go_ret
    exact ⟨rfl, HB2.out⟩
set_option maxRecDepth 100000 in
theorem lifted (os : Os) (started : os.Started) (H : Type) (enc : TypeId × Value → H) :
    ReturnsInHanded {} Try.checked os 4 .any (Rows.docMakesSpec.pre6 enc Try.prog Try.f4 Rows.docMakesRow.domain false) (Rows.docMakesSpec.post enc Try.prog Try.f4 false true false false) := by
  refine returnsInHanded_of_change (C := Try.checked) ownKnobNone started (by kernel_rfl) Try.func4
    (ChangeSpec.witness6 (enc := enc) (C := Try.checked) false ⟨#[], #[.slice none 0 0, .string ByteArray.empty, .int .i64 0], []⟩ 8 (by kernel_rfl) (by kernel_rfl) (by kernel_rfl) (by kernel_rfl)) ?_
  intro W base args ds gs before hval0 hW hcnd _
  have hval : ∀ (j : Nat) t v, Try.f4.params[j]? = some t → args[j]? = some v → Value.okWide Try.prog W .any base t v := hval0
  have hW' := hW
  obtain ⟨p, q, hA0, hV, rfl, hfz, hnd⟩ := hW
  have hA : DataW.TrodAll enc Try.prog W 0 (fun _ => true) true Try.f4.params.toList args.toList ds p := hA0
  rw [Try.params4] at hA hval
  obtain ⟨v0, vs0, d0, ds0, p0, q0, hargs, rfl, rfl, h0, r0⟩ := trodAll_cons hA
  obtain ⟨v1, vs1, d1, ds1, p1, q1, rfl, rfl, rfl, h1, r1⟩ := trodAll_cons r0
  obtain ⟨v2, vs2, d2, ds2, p2, q2, rfl, rfl, rfl, h2, r2⟩ := trodAll_cons r1
  obtain ⟨rfl, rfl, rfl⟩ := trodAll_nil r2
  obtain rfl : args = #[v0, v1, v2] := by cases args; simp_all
  obtain ⟨rfl, rfl⟩ := trodVars_none hV
  obtain ⟨a0, len0, cap0, rfl⟩ := okWide_slice Try.underlying22 (hval 0 22 v0 rfl rfl)
  have k0 := h0
  have lt0 : ∀ x ∈ p0, x.block < W.heap.size := by obtain ⟨m, hm⟩ := k0; exact DataW.trod_lt m _ _ _ hm
  obtain ⟨z0, w0⟩ : ∃ T : List Dc, DrIn W (fun g => g < W.heap.size) (.slice a0 len0 cap0) T := by
    obtain ⟨fuel, hf⟩ := h0
    exact open_dcs hf
  obtain ⟨a1, rfl, rfl, rfl, w1⟩ := Go.ChangeMaps.open_string Try.underlying9 (hval 1 9 v1 rfl rfl) h1
  obtain ⟨a2, rfl, rfl, rfl, w2⟩ := open_int Try.underlying3 (hval 2 3 v2 rfl rfl) h2
  clear hA0 hval0
  refine (walk (.slice a0 len0 cap0) z0 a1 w1 a2 W w0).mono fun e W' ⟨he, bel⟩ => ?_
  subst he
  exact ⟨_, rfl, _, _, _, [], _, [], hW', trodAll_mk1 (shut_bool Try.underlying4 _), (trodAll_cons_mk (Below.trod laidOutP (by kernel_rfl) (of_decide_eq_true (by kernel_rfl)) k0 bel lt0) (trodAll_cons_mk (Go.ChangeMaps.shut_string Try.underlying9 w1) (trodAll_cons_mk (shut_int Try.underlying3 w2) trodAll_mk0))), rfl, bel.frame _, fun h => by cases h⟩
theorem over : Rows.DocMakesSaid :=
  OpenClaim.holds_of_wide 4 Try.f4 rfl rfl rfl rfl rfl rfl rfl ⟨rfl, rfl, rfl, rfl, rfl⟩ rfl rfl rfl rfl rfl (by kernel_rfl) Try.func4 (by kernel_rfl)
    (of_decide_eq_true (by kernel_rfl)) (by unfold Func.isWrapper; first | (rw [if_pos (by decide +kernel)]; kernel_rfl) | (rw [if_neg (by decide +kernel)]; exact ⟨rfl, rfl⟩))
    (fun os started H enc _ => lifted os started H enc)
/-- THE STATEMENT. -/
theorem proved : Rows.DocMakesSaid := over
#print axioms proved
end Go.Proofs.Ytnmpapmjkihfcaa.docMakes
