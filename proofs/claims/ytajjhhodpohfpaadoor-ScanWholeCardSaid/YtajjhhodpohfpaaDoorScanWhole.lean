/-
  A text is its tokens and blanks between them, in their order; each token by itself is that token (promise 6.4): for every text the statement ScanWhole returns true.
-/
import Derived.Test.YtajjhhodpohfpaaDoorScanLaid
import Derived.Test.YtajjhhodpohfpaaDoorCards
import Derived.Test.YtajjhhodpohfpaaDoorTie
import Derived.Test.YtajjhhodpohfpaaDoorBase
import Derived.Test.YtajjhhodpohfpaaDoorScanTolds
import Derived.Deep.LoopGhost
import Derived.Deep.QuietTactic
import Derived.BigQuiet
namespace Go.Proofs.YtajjhhodpohfpaaDoor.scanWhole
open Go.ChangeShapes Go.WideShapes Go.ChangeAt Go.RowKit Go.PlainAid

set_option maxRecDepth 100000 in
set_option maxHeartbeats 4000000 in
theorem walk (s : ByteArray) (hs : s.size ≤ maxLen) (w : World) (ht : STabs w) :
    Calls Tryd.prog 4 #[.string s] w fun e w' => e = .returned (.bool true) ∧ Below w.heap.size w w' := by
  have HT := Lib.hid ht
  clear ht
  unfold maxLen at hs
  by_cases h1 : (1000 : Int) < (s.size : Int)
  · go_enter Tryd.func4, Tryd.ntmps4
    go_wp2_with fail
    refine (told6_any _ HT.out).mono ?_
    rintro e w1 ⟨rfl, hb1⟩
    have HB := Lib.hid hb1
    clear hb1
    go_wp2_with fail
    go_ret
    exact ⟨rfl, HB.out⟩
  have hs1 : s.size ≤ 1000 := by omega
  obtain ⟨L, c, hR⟩ : ∃ L c, scanR s = (L, c) := ⟨_, _, rfl⟩
  have HSC := Lib.hid (fun W h => scan_is s L c hR (by omega) W h)
  by_cases hc : c = 0
  · subst hc
    obtain ⟨-, hv, hsc⟩ := scan_good hR
    have hl : L.length ≤ s.size := by
      have h : (scanR s).1.length ≤ s.size := scan_len s
      rw [hR] at h; exact h
    clear hR
    have HV := Lib.hid hv
    have HS0 := Lib.hid hsc
    have HG := Lib.hid (get_bt s)
    clear hv hsc
    go_enter Tryd.func4, Tryd.ntmps4
    go_wp2_with fail
    refine (HSC.out _ HT.out).mono ?_
    rintro e w1 ⟨v1, rfl, ha1, hb1⟩
    obtain ⟨ga, cap, rfl, hr1⟩ := ha1
    have HR1 := Lib.hid hr1
    have B1 := Lib.hid hb1
    clear hr1 hb1
    obtain ⟨N, hN⟩ : ∃ N, N = L.length := ⟨_, rfl⟩
    rw [← hN] at HR1 hl ⊢
    have HN := Lib.hid hN
    clear hN
    go_wp2_with fail
    go_loopg [5, 6] (N + 1) (fun gn p i wr => ∃ (q k : Nat), gn = N + 1 - k ∧ k ≤ N ∧ p = .int .i64 q ∧ i = .int .i64 k ∧ q ≤ s.size ∧ Hid (sc s (fw bl s q) = some (L.drop k)) ∧ Hid (Below w1.heap.size w1 wr))
    case atStart => exact ⟨0, 0, rfl, Nat.zero_le _, rfl, rfl, Nat.zero_le _, HS0, Lib.hid (Below.refl _ _)⟩
    case round =>
      obtain ⟨q, k, hgn, hk, rfl, rfl, hq, HK, HB⟩ := hrel
      by_cases hlt : k < N
      · obtain ⟨K, a, n, t1, t2, t3, t4, t5, t6, t7, t8, t9, t10, t11⟩ := tok_at HK.out (by rw [← HN.out]; exact hlt) HV.out
        obtain ⟨g, rfl, hg, hc1⟩ := HR1.out (by omega)
        obtain ⟨c1, c2, c3⟩ := hc1 k _ t1
        have HBK : Hid (∀ j, q ≤ j → j < a → bl (bt s j) = true) := Lib.hid (fun j j1 j2 => fw_all bl s q j j1 (by omega))
        have OW := Lib.hid (fun W h => own_is t9 t4 t5 t7 t6 t10 t8 (by omega) W h)
        have HK2 := Lib.hid t11
        have hk2 := kd2_two s a n K
        obtain ⟨K', hK'⟩ : ∃ K', K' = kd2 s a n K := ⟨_, rfl⟩
        obtain ⟨X, hX⟩ : ∃ X, X = s.extract a (a + n) := ⟨_, rfl⟩
        have hXn : X.size = n := by rw [hX, size_ext s a (a + n) t5]; omega
        have hX0 : 0 < n → bt X 0 = bt s a := fun _ => by rw [hX, bt_ext s a (a + n) 0 t5 (by omega), Nat.add_zero]
        have hXe : (X.toList == []) = false := ne_empty (by omega)
        simp only at c1 c2 c3
        rw [← hX] at OW c2
        rw [← hK'] at OW hk2
        have HX := Lib.hid hX
        have hdot : K' = K ∨ (X.toList == [46]) = true := by
          rcases hk2 with h | ⟨-, -, h3, h4⟩
          · exact .inl h
          · exact .inr (one_byte hXn h3 (by rw [hX0 t4]; exact h4))
        have HC := Lib.hid (show g < w1.heap.size ∧ w1.cell? ⟨g, k * 3, none⟩ = some (.int .i64 K) ∧ w1.cell? ⟨g, k * 3 + 1, none⟩ = some (.string X) ∧ w1.cell? ⟨g, k * 3 + 2, none⟩ = some (.int .i64 (a : Int)) from ⟨hg, c1, c2, c3⟩)
        have cc3 := (HB.out.cell (p := ⟨g, k * 3 + 2, none⟩) hg).trans c3
        have HDOT := Lib.hid hdot
        have kn : (k : Int) < (N : Int) := by omega
        clear c1 c2 c3 hc1 t1 t2 t7 t8 t9 t10 t11 hk2 hK' hX hX0 hdot hg
        go_wp2_with fail
        go_loopg [8] (a - q) (fun gm j wi => ∃ (j' : Nat), gm = a - j' ∧ q ≤ j' ∧ j' ≤ a ∧ j = .int .i64 j' ∧ Hid (Below w1.heap.size w1 wi))
        case atStart => exact ⟨q, rfl, Nat.le_refl _, by omega, rfl, HB⟩
        case round =>
          obtain ⟨j, hgm, hj, hj2, rfl, HI⟩ := hrel
          by_cases hlj : j < a
          · have gj := HG.out j (by omega)
            have jn : (j : Int) < (s.size : Int) := by omega
            have hb4 := bl_four (HBK.out j hj hlj)
            obtain ⟨c, hc⟩ : ∃ c, c = bt s j := ⟨_, rfl⟩
            rw [← hc] at gj hb4
            clear hc
            rcases hb4 with rfl | rfl | rfl | rfl
            all_goals (
              go_wp2_with fail
              go_roundg (a - (j + 1))
              case measure => omega
              case rel => exact ⟨j + 1, rfl, by omega, hlj, by go_num, HI⟩)
          · obtain rfl : a = j := by omega
            clear hgm
            obtain ⟨hg, c1, c2, c3⟩ := HC.out
            have cc1 := (HI.out.cell (p := ⟨g, k * 3, none⟩) hg).trans c1
            have cc2 := (HI.out.cell (p := ⟨g, k * 3 + 1, none⟩) hg).trans c2
            have cc3' := (HI.out.cell (p := ⟨g, k * 3 + 2, none⟩) hg).trans c3
            clear c1 c2 c3 hg cc3
            have an : (a : Int) + (n : Int) ≤ (s.size : Int) := by omega
            go_wp2_with fail
            have hln : decide ((s.size : Int) - (a : Int) < (n : Int)) = false := decide_eq_false (by omega)
            have hee : s.extract a (a + n) = X := HX.out.symm
            go_quiet (fail)
            have hXX : (X.toList == X.toList) = true := beq_self_eq_true _
            have B2 : Hid (Below w1.heap.size w1 ((wr.alloc (.cells #[.int .i64 K, .string X, .int .i64 (a : Int)] 29)).drewN nq)) := Lib.hid ((HI.out.alloc HI.out.size _).trans ((drew_below _ _).mono (HI.out.alloc HI.out.size _).size))
            go_wp2_with fail
            refine (OW.out _ (HT.out.below (B1.out.trans (B2.out.mono B1.out.size)))).mono ?_
            rintro e w5 ⟨g5, cap5, rfl, d1, d2, hg5, hb5⟩
            have B5 : Hid (Below w1.heap.size w1 w5) := Lib.hid (B2.out.trans (hb5.mono B2.out.size))
            have hb6 : Below (wr.heap.size + 1) (wr.alloc (.cells #[.int .i64 K, .string X, .int .i64 (a : Int)] 29)) w5 := ((drew_below _ nq).mono (by simp)).trans (hb5.mono (by simp))
            have Q5 := Lib.hid (row_of hb6)
            have hlt5 : wr.heap.size < w5.heap.size := (Array.getElem?_eq_some_iff.1 Q5.out).1
            have q0 := cell_of_row w5 _ 0 _ _ _ Q5.out
            have q1 := cell_of_row w5 _ 1 _ _ _ Q5.out
            simp only [List.getElem?_toArray, List.getElem?_cons_zero, List.getElem?_cons_succ] at q0 q1
            clear hb5 hb6 cc1 cc2 cc3' hee hln
            by_cases hKK : K' = K
            · have hne : (K' != K) = false := by rw [hKK]; simp
              clear hKK
              go_wp2_with fail
              go_quiet (fail)
              go_wp2_with fail
              go_roundg (N - k)
              case measure => omega
              case rel => exact ⟨a + n, k + 1, by omega, hlt, by go_num, by go_num, by omega, HK2, Lib.hid (B5.out.trans ((drew_below _ _).mono B5.out.size))⟩
            · have hne : (K' != K) = true := by simpa using hKK
              have hx46 := HDOT.out.resolve_left hKK
              clear hKK
              go_wp2_with fail
              go_quiet (fail)
              go_wp2_with fail
              go_roundg (N - k)
              case measure => omega
              case rel => exact ⟨a + n, k + 1, by omega, hlt, by go_num, by go_num, by omega, HK2, Lib.hid (B5.out.trans ((drew_below _ _).mono B5.out.size))⟩
      · have HBK := Lib.hid (no_tok HK.out (by rw [← HN.out]; exact hlt))
        obtain rfl : k = N := by omega
        go_wp2_with fail
        go_loopg [8] (s.size - q) (fun gm j wi => ∃ (j' : Nat), gm = s.size - j' ∧ q ≤ j' ∧ j' ≤ s.size ∧ j = .int .i64 j' ∧ Hid (Below w1.heap.size w1 wi))
        case atStart => exact ⟨q, rfl, Nat.le_refl _, by omega, rfl, HB⟩
        case round =>
          obtain ⟨j, hgm, hj, hj2, rfl, HI⟩ := hrel
          by_cases hlj : j < s.size
          · have gj := HG.out j (by omega)
            have jn : (j : Int) < (s.size : Int) := by omega
            have hb4 := bl_four (HBK.out j hj hlj)
            obtain ⟨c, hc⟩ : ∃ c, c = bt s j := ⟨_, rfl⟩
            rw [← hc] at gj hb4
            clear hc
            rcases hb4 with rfl | rfl | rfl | rfl
            all_goals (
              go_wp2_with fail
              go_roundg (s.size - (j + 1))
              case measure => omega
              case rel => exact ⟨j + 1, rfl, by omega, hlj, by go_num, HI⟩)
          · obtain rfl : j = s.size := by omega
            clear hgm
            go_wp2_with fail
            have B8 : Hid (Below w.heap.size w wr) := Lib.hid (B1.out.trans (HI.out.mono B1.out.size))
            refine (told6_any _ (HT.out.below B8.out)).mono ?_
            rintro e w9 ⟨rfl, hb9⟩
            have B9 : Hid (Below w.heap.size w w9) := Lib.hid (B8.out.trans (hb9.mono B8.out.size))
            clear hb9
            go_wp2_with fail
            go_ret
            exact ⟨rfl, B9.out⟩
  · obtain rfl := scan_bad hR hc
    clear hR
    go_enter Tryd.func4, Tryd.ntmps4
    go_wp2_with fail
    refine (HSC.out _ HT.out).mono ?_
    rintro e w1 ⟨v1, rfl, ha1, hb1⟩
    obtain ⟨ad, cap, rfl, -⟩ := ha1
    have B1 := Lib.hid hb1
    clear hb1
    simp only [List.length_nil]
    go_wp2_with fail
    refine (told6_any _ (HT.out.below B1.out)).mono ?_
    rintro e w2 ⟨rfl, hb2⟩
    have B2 : Hid (Below w.heap.size w w2) := Lib.hid (B1.out.trans (hb2.mono B1.out.size))
    clear hb2
    go_wp2_with fail
    go_ret
    exact ⟨rfl, B2.out⟩
set_option maxRecDepth 100000 in
theorem lifted (os : Os) (started : os.Started) (H : Type) (enc : TypeId × Value → H) :
    ReturnsInHanded {} Tryd.checked os 4 .any (fun w args => (Rows.scanWholeSpec.pre enc Tryd.prog Tryd.f4 [] false w args ∧ laidMetH Tryd.prog scanLaid w) ∧ sizedMet enc Tryd.prog Tryd.f4 (OpenSpec.ofChange Rows.scanWholeSpec) false w args)
      (Rows.scanWholeSpec.post enc Tryd.prog Tryd.f4 false true false false) := by
  refine returnsInHanded_of_change_and (C := Tryd.checked) (X := fun w _ => laidMetH Tryd.prog scanLaid w) (fun _ _ _ hh h => h.of_heap hh) own6 started (by kernel_rfl) Tryd.func4
    (ChangeSpec.witness_shaped (enc := enc) (C := Tryd.checked) (os := os) (X := fun w _ => laidMetH Tryd.prog scanLaid w) false (World.laidAll Tryd.prog os scanLaid) #[.string ByteArray.empty] 8 (World.laidAll_os _ _ _) (World.shaped_of_ZipB (by kernel_rfl) (by kernel_rfl)) (by kernel_rfl) (by kernel_rfl) (by kernel_rfl) (laid_met6 os _)) ?_
  intro W base args ds gs before hval0 hW _ _ hL _
  have hval : ∀ (j : Nat) t v, Tryd.f4.params[j]? = some t → args[j]? = some v → Value.okWide Tryd.prog W .any base t v := hval0
  have hW' := hW
  obtain ⟨p, q, hA0, hV, rfl, hfz, hnd⟩ := hW
  have hA : DataW.TrodAll enc Tryd.prog W 0 (fun _ => true) true Tryd.f4.params.toList args.toList ds p := hA0
  rw [Tryd.params4] at hA hval
  obtain ⟨v0, vs0, d0, ds0, p0, q0, hargs, rfl, rfl, h0, r0⟩ := trodAll_cons hA
  obtain ⟨rfl, rfl, rfl⟩ := trodAll_nil r0
  obtain rfl : args = #[v0] := by cases args; simp_all
  obtain ⟨rfl, rfl⟩ := trodVars_none hV
  obtain ⟨a0, rfl, rfl, rfl, w0⟩ := Go.ChangeMaps.open_string Tryd.underlying9 (hval 0 9 v0 rfl rfl) h0
  clear hA0 hval0
  simp only [List.append_nil] at hW'
  refine (walk a0 w0 W (stabs_of_laid hL)).mono fun e W' ⟨he, bel⟩ => ?_
  subst he
  exact ⟨_, rfl, _, _, _, [], _, [], hW', trodAll_mk1 (shut_bool Tryd.underlying4 _), (trodAll_cons_mk (Go.ChangeMaps.shut_string Tryd.underlying9 w0) trodAll_mk0), rfl, bel.frame _, fun h => by cases h⟩
theorem over : Rows.ScanWholeSaid :=
  OpenClaim.holds_of_wide 4 Tryd.f4 rfl rfl rfl rfl rfl rfl rfl ⟨rfl, rfl, rfl, rfl, rfl⟩ rfl rfl rfl rfl rfl (by kernel_rfl) Tryd.func4 (by kernel_rfl)
    (of_decide_eq_true (by kernel_rfl)) (by unfold Func.isWrapper; first | (rw [if_pos (by decide +kernel)]; kernel_rfl) | (rw [if_neg (by decide +kernel)]; exact ⟨rfl, rfl⟩))
    (fun os started H enc _ => lifted os started H enc)
/-- THE TIED CARD. -/
theorem proved : Rows.ScanWholeCardSaid :=
  Claim7.holds_tied_plain_at .later [] [.data, .data, .data, .data, .data, .data, .pinned] true Rows.scanWholeCard.stood.harness false
    over (fun _ h => by cases h) (by kernel_rfl) (fun _ h => by cases h) scanWhole_row_tie rfl ⟨rfl, rfl⟩ (by kernel_rfl) rfl
    (fun f fn hf hfn => by
      obtain rfl : f = 4 := Option.some.inj ((show Tryd.prog.funcNamed "galley/galleylaw6.ScanWhole" = some 4 by kernel_rfl).symm.trans hf) |>.symm
      obtain rfl : fn = Tryd.f4 := (Option.some.inj (Tryd.func4.symm.trans hfn)).symm
      exact ⟨by kernel_rfl, fun j t ht => by
        rw [Tryd.params4] at ht
        have hm : t ∈ [9] := by
          have := Array.mem_of_getElem? ht
          simpa using this
        have hall : ([9].all fun u => !Tryd.prog.wantsStandIn u) = true := by kernel_rfl
        exact (show Tryd.prog.wantsStandIn t = false by simpa using List.all_eq_true.1 hall t hm)⟩)
    (by kernel_rfl)
#print axioms proved
end Go.Proofs.YtajjhhodpohfpaaDoor.scanWhole
