/-
  A line's beginning is in that line, in the column 0; a byte further on is in it, too, if it is no line's end (promises 2.1 and 2.2): for every text the statement PlaceBack returns true. The three tables of package utf are tied to the program's text by the given ties; no further condition.
-/
import Derived.Test.YtngpiejigefhoaaDoorUtfLaid
import Derived.Test.YtngpiejigefhoaaDoorPlaceTold
import Derived.Test.YtngpiejigefhoaaDoorCards
import Derived.Test.YtngpiejigefhoaaDoorTie
namespace Go.Proofs.YtngpiejigefhoaaDoor.placeBack
open Go.ChangeShapes Go.WideShapes Go.ChangeAt Go.RowKit Go.PlainAid

theorem ahead_lb {s : ByteArray} {j : Nat} (h : j < nlc s s.size + 1) : ct (ahead s (lb s s.size j : Nat)) 0 = 0 := by
  have h1 := lb_le h
  refine ct_end ?_
  unfold ahead
  rw [cl_nat h1, nlc_lb h, size_ext _ _ _ h1]
  omega

set_option maxRecDepth 100000 in
set_option maxHeartbeats 8000000 in
theorem walk (s : ByteArray) (_hm : s.size ≤ maxLen) (w : World) (ht : Tabs w) :
    Calls Tryd.prog 5 #[.string s] w fun e w' => e = .returned (.bool true) ∧ Below w.heap.size w w' := by
  have HT := Lib.hid ht
  clear ht
  by_cases g1 : 400 < s.size
  · go_enter Tryd.func5, Tryd.ntmps5
    go_wp2_with fail
    refine (told2_any _ HT.out).mono ?_
    rintro e w1 ⟨rfl, q1⟩
    go_wp2
    go_ret
    exact ⟨rfl, q1⟩
  have g1' : decide (400 < (s.size : Int)) = false := by simp; omega
  have hs : s.size ≤ 1099511627776 := by omega
  have gb := get_bt s
  have hn := nlc_le s s.size
  have HE := Lib.hid (fun W => ends_any s W)
  have HL := Lib.hid (lines_any s w hs)
  have HI : Hid (∀ j, j < nlc s s.size + 1 → ∀ W, Calls Tryd.prog 9 #[.string s, .int .i64 ((j : Int) + 1)] W fun e w' => e = .returned (.tuple #[.int .i64 (lb s s.size j), .int .i64 0]) ∧ Below W.heap.size W w') := fun j h W => start_in s j W hs h
  have H1 : Hid (∀ j, j < nlc s s.size + 1 → ∀ W, Calls Tryd.prog 10 #[.string s, .int .i64 (lb s s.size j)] W fun e w' => e = .returned (.int .i64 ((j : Int) + 1)) ∧ Below W.heap.size W w') := by
    intro j h W
    have h1 := line_any s (lb s s.size j) W hs
    rw [cl_nat (lb_le h), nlc_lb h] at h1
    exact h1
  have H2 : Hid (∀ j, j < nlc s s.size + 1 → ∀ W, Tabs W → Calls Tryd.prog 14 #[.string s, .int .i64 (lb s s.size j)] W fun e w' => e = .returned (.int .i64 0) ∧ Below W.heap.size W w') := by
    intro j h W hT
    have h1 := column_any s (lb s s.size j) W hT hs
    rw [ahead_lb h] at h1
    exact h1
  have H3 : Hid (∀ j : Nat, j ≤ s.size → ∀ W, Calls Tryd.prog 10 #[.string s, .int .i64 (j : Int)] W fun e w' => e = .returned (.int .i64 ((nlc s j : Int) + 1)) ∧ Below W.heap.size W w') := by
    intro j h W
    have h1 := line_any s j W hs
    rw [cl_nat h] at h1
    exact h1
  have HA := Lib.hid (fun j (h : j < nlc s s.size + 1) => (lb_all s s.size j h))
  go_enter Tryd.func5, Tryd.ntmps5
  go_wp2_with fail
  refine HL.out.mono ?_
  rintro e w1 ⟨g, cap, rfl, hg0, hg, hc, hb1⟩
  have C1 := Lib.hid hc
  have B1 := Lib.hid hb1
  clear hc hb1
  obtain ⟨z, hz⟩ : ∃ z, z = lb s s.size := ⟨_, rfl⟩
  rw [← hz] at C1 HI H1 H2 HA
  obtain ⟨N, hN⟩ : ∃ N, N = nlc s s.size := ⟨_, rfl⟩
  rw [← hN] at C1 HI HE H1 H2 HA hn ⊢
  clear hN hz
  go_wp2_with fail
  refine (HE.out _).mono ?_
  rintro e w3 ⟨rfl, rfl⟩
  go_wp2_with fail
  go_loopw [4] (fun i wr => ∃ k : Nat, k ≤ N + 1 ∧ i = .int .i64 k ∧ Hid (Below w1.heap.size w1 wr)) (fun i _ => N + 1 - (intOf i).toNat)
  case atStart => exact ⟨0, Nat.zero_le _, rfl, Below.refl _ _⟩
  case round =>
    obtain ⟨k, hk, rfl, HW⟩ := hrel
    obtain ⟨wB, rfl⟩ : ∃ wB : World, wB = wr := ⟨_, rfl⟩
    by_cases hlt : k < N + 1
    · have c1 := (HW.out.cell (p := ⟨g, k, none⟩) hg).trans (C1.out k hlt)
      have L1 := Lib.hid (H1.out k hlt)
      have L2 := Lib.hid (H2.out k hlt)
      have L3 := Lib.hid (HI.out k hlt)
      have CK := Lib.hid (C1.out k hlt)
      obtain ⟨a1, a2, a3⟩ := HA.out k hlt
      clear a2
      obtain ⟨q, hq⟩ : ∃ q, q = z k := ⟨_, rfl⟩
      rw [← hq] at c1 L1 L2 L3 CK a1 a3
      clear hq
      have TB := Lib.hid (HT.out.below (B1.out.trans (HW.out.mono B1.out.size)))
      by_cases h0 : 0 < k
      · obtain ⟨a4, a5⟩ := a3 h0
        have k1 : q - 1 < s.size := by omega
        have e1 : ((q : Int) - 1).toNat = q - 1 := by omega
        have hbe : (bt s (q - 1) == 10) = true := by rw [a5]; rfl
        have hbn : (bt s (q - 1) != 10) = false := by rw [a5]; rfl
        clear a5 a3
        go_wp2_with fail
        refine (L1.out _).mono ?_
        rintro e w2 ⟨rfl, b2⟩
        have B2 := Lib.hid b2
        have B2' := Lib.hid (HW.out.trans (b2.mono HW.out.size))
        clear b2
        have c2 := (B2'.out.cell (p := ⟨g, k, none⟩) hg).trans CK.out
        clear c1
        go_wp2_with fail
        refine (L2.out _ (TB.out.below B2.out)).mono ?_
        rintro e w3 ⟨rfl, b3⟩
        have B3' := Lib.hid (B2'.out.trans (b3.mono B2'.out.size))
        clear b3
        have c3 := (B3'.out.cell (p := ⟨g, k, none⟩) hg).trans CK.out
        clear c2
        go_wp2_with fail
        refine (L3.out _).mono ?_
        rintro e w4 ⟨rfl, b4⟩
        have B4' := Lib.hid (B3'.out.trans (b4.mono B3'.out.size))
        clear b4
        have c4 := (B4'.out.cell (p := ⟨g, k, none⟩) hg).trans CK.out
        clear c3
        go_wp2_with fail
        go_roundw
        case rel => exact ⟨k + 1, hlt, by go_num, B4'⟩
        case measure => simp [intOf]; omega
      · obtain rfl : k = 0 := by omega
        clear a3
        go_wp2_with fail
        refine (L1.out _).mono ?_
        rintro e w2 ⟨rfl, b2⟩
        have B2 := Lib.hid b2
        have B2' := Lib.hid (HW.out.trans (b2.mono HW.out.size))
        clear b2
        have c2 := (B2'.out.cell (p := ⟨g, 0, none⟩) hg).trans CK.out
        clear c1
        go_wp2_with fail
        refine (L2.out _ (TB.out.below B2.out)).mono ?_
        rintro e w3 ⟨rfl, b3⟩
        have B3' := Lib.hid (B2'.out.trans (b3.mono B2'.out.size))
        clear b3
        have c3 := (B3'.out.cell (p := ⟨g, 0, none⟩) hg).trans CK.out
        clear c2
        go_wp2_with fail
        refine (L3.out _).mono ?_
        rintro e w4 ⟨rfl, b4⟩
        have B4' := Lib.hid (B3'.out.trans (b4.mono B3'.out.size))
        clear b4
        have c4 := (B4'.out.cell (p := ⟨g, 0, none⟩) hg).trans CK.out
        clear c3
        go_wp2_with fail
        go_roundw
        case rel => exact ⟨1, by omega, by go_num, B4'⟩
        case measure => simp [intOf]
    · have hge : N + 1 ≤ k := by omega
      clear hlt
      have BB := Lib.hid (B1.out.trans (HW.out.mono B1.out.size))
      have TB := Lib.hid (HT.out.below BB.out)
      clear HW
      go_wp2_with fail
      go_loopw [7] (fun i wr => ∃ k : Nat, k ≤ s.size ∧ i = .int .i64 k ∧ Hid (Below w.heap.size w wr)) (fun i _ => s.size - (intOf i).toNat)
      case atStart => exact ⟨0, Nat.zero_le _, rfl, BB⟩
      case round =>
        obtain ⟨k, hk, rfl, HW⟩ := hrel
        obtain ⟨wC, rfl⟩ : ∃ wC : World, wC = wr := ⟨_, rfl⟩
        by_cases hlt : k < s.size
        · have L1 := Lib.hid (H3.out k (by omega))
          have L2 := Lib.hid (H3.out (k + 1) (by omega))
          have nk := nlc_le s k
          by_cases hb : bt s k = 10
          · rw [nlc_hit hb] at L2
            have hbe : (bt s k == 10) = true := by rw [hb]; rfl
            have hbn : (bt s k != 10) = false := by rw [hb]; rfl
            obtain ⟨K, hK⟩ : ∃ K, K = nlc s k := ⟨_, rfl⟩
            rw [← hK] at L1 L2 nk
            clear hb hK
            simp only [Int.natCast_add, Int.natCast_one] at L2
            go_wp2_with fail
            refine (L1.out _).mono ?_
            rintro e w2 ⟨rfl, b2⟩
            have B2 := Lib.hid (HW.out.trans (b2.mono HW.out.size))
            clear b2
            go_wp2_with fail
            refine (L2.out _).mono ?_
            rintro e w3 ⟨rfl, b3⟩
            have B3 := Lib.hid (B2.out.trans (b3.mono B2.out.size))
            clear b3
            go_wp2_with fail
            go_roundw
            case rel => exact ⟨k + 1, hlt, by go_num, B3⟩
            case measure => simp [intOf]; omega
          · rw [nlc_miss hb] at L2
            have hbe : (bt s k == 10) = false := beq_false_of_ne hb
            have hbn : (bt s k != 10) = true := by simpa using hb
            obtain ⟨K, hK⟩ : ∃ K, K = nlc s k := ⟨_, rfl⟩
            rw [← hK] at L1 L2 nk
            clear hb hK
            simp only [Int.natCast_add, Int.natCast_one] at L2
            go_wp2_with fail
            refine (L1.out _).mono ?_
            rintro e w2 ⟨rfl, b2⟩
            have B2 := Lib.hid (HW.out.trans (b2.mono HW.out.size))
            clear b2
            go_wp2_with fail
            refine (L2.out _).mono ?_
            rintro e w3 ⟨rfl, b3⟩
            have B3 := Lib.hid (B2.out.trans (b3.mono B2.out.size))
            clear b3
            go_wp2_with fail
            go_roundw
            case rel => exact ⟨k + 1, hlt, by go_num, B3⟩
            case measure => simp [intOf]; omega
        · obtain rfl : k = s.size := by omega
          go_wp2_with fail
          refine (told2_any _ (HT.out.below HW.out)).mono ?_
          rintro e w2 ⟨rfl, b2⟩
          have R := Lib.hid (HW.out.trans (b2.mono HW.out.size))
          clear b2
          go_wp2
          go_ret
          exact ⟨rfl, R.out⟩
set_option maxRecDepth 100000 in
theorem lifted (os : Os) (started : os.Started) (H : Type) (enc : TypeId × Value → H) :
    ReturnsInHanded {} Tryd.checked os 5 .any (fun w args => (Rows.placeBackSpec.pre enc Tryd.prog Tryd.f5 [] false w args ∧ laidMetH Tryd.prog utfLaid w) ∧ sizedMet enc Tryd.prog Tryd.f5 (OpenSpec.ofChange Rows.placeBackSpec) false w args)
      (Rows.placeBackSpec.post enc Tryd.prog Tryd.f5 false true false false) := by
  refine returnsInHanded_of_change_and (C := Tryd.checked) (X := fun w _ => laidMetH Tryd.prog utfLaid w) (fun _ _ _ hh h => h.of_heap hh) own started (by kernel_rfl) Tryd.func5
    (ChangeSpec.witness_shaped (enc := enc) (C := Tryd.checked) (os := os) (X := fun w _ => laidMetH Tryd.prog utfLaid w) false (World.doorLaid Tryd.prog 400 os) #[.string ByteArray.empty] 8 rfl (World.shaped_of_RefB (by kernel_rfl) (by kernel_rfl)) (by kernel_rfl) (by kernel_rfl) (by kernel_rfl) (door_met os _)) ?_
  intro W base args ds gs before hval0 hW _ _ hL _
  have hval : ∀ (j : Nat) t v, Tryd.f5.params[j]? = some t → args[j]? = some v → Value.okWide Tryd.prog W .any base t v := hval0
  have hW' := hW
  obtain ⟨p, q, hA0, hV, rfl, hfz, hnd⟩ := hW
  have hA : DataW.TrodAll enc Tryd.prog W 0 (fun _ => true) true Tryd.f5.params.toList args.toList ds p := hA0
  rw [Tryd.params5] at hA hval
  obtain ⟨v0, vs0, d0, ds0, p0, q0, hargs, rfl, rfl, h0, r0⟩ := trodAll_cons hA
  obtain ⟨rfl, rfl, rfl⟩ := trodAll_nil r0
  obtain rfl : args = #[v0] := by cases args; simp_all
  obtain ⟨rfl, rfl⟩ := trodVars_none hV
  obtain ⟨a0, rfl, rfl, rfl, w0⟩ := Go.ChangeMaps.open_string Tryd.underlying9 (hval 0 9 v0 rfl rfl) h0
  clear hA0 hval0
  simp only [List.append_nil] at hW'
  refine (walk a0 w0 W (tabs_of_laid hL)).mono fun e W' ⟨he, bel⟩ => ?_
  subst he
  exact ⟨_, rfl, _, _, _, [], _, [], hW', trodAll_mk1 (shut_bool Tryd.underlying4 _), (trodAll_cons_mk (Go.ChangeMaps.shut_string Tryd.underlying9 w0) trodAll_mk0), rfl, bel.frame _, fun h => by cases h⟩
theorem over : Rows.PlaceBackSaid :=
  OpenClaim.holds_of_wide 5 Tryd.f5 rfl rfl rfl rfl rfl rfl rfl ⟨rfl, rfl, rfl, rfl, rfl⟩ rfl rfl rfl rfl rfl (by kernel_rfl) Tryd.func5 (by kernel_rfl)
    (of_decide_eq_true (by kernel_rfl)) (by unfold Func.isWrapper; first | (rw [if_pos (by decide +kernel)]; kernel_rfl) | (rw [if_neg (by decide +kernel)]; exact ⟨rfl, rfl⟩))
    (fun os started H enc _ => lifted os started H enc)
/-- THE TIED CARD. -/
theorem proved : Rows.PlaceBackCardSaid :=
  Claim7.holds_tied_plain_at .later [] [.data, .data, .data] true Rows.placeBackCard.stood.harness false
    over (fun _ h => by cases h) (by kernel_rfl) (fun _ h => by cases h) placeBack_row_tie rfl ⟨rfl, rfl⟩ (by kernel_rfl) rfl
    (fun f fn hf hfn => by
      obtain rfl : f = 5 := Option.some.inj ((show Tryd.prog.funcNamed "galley/galleylaw2.PlaceBack" = some 5 by kernel_rfl).symm.trans hf) |>.symm
      obtain rfl : fn = Tryd.f5 := (Option.some.inj (Tryd.func5.symm.trans hfn)).symm
      exact ⟨by kernel_rfl, fun j t ht => by
        rw [Tryd.params5] at ht
        have hm : t ∈ [9] := by
          have := Array.mem_of_getElem? ht
          simpa using this
        have hall : ([9].all fun u => !Tryd.prog.wantsStandIn u) = true := by kernel_rfl
        exact (show Tryd.prog.wantsStandIn t = false by simpa using List.all_eq_true.1 hall t hm)⟩)
    (by kernel_rfl)
#print axioms proved
end Go.Proofs.YtngpiejigefhoaaDoor.placeBack
