/-
  Package place's Lines, Ends, Start, Line and Column tell what the document says (promise 2.1): for every text and every two integers the statement PlaceAsks returns true. The three tables of package utf are tied to the program's text by the given ties; no further condition.
-/
import Derived.Test.YtngpiejigefhoaaDoorUtfLaid
import Derived.Test.YtngpiejigefhoaaDoorPlaceTold
import Derived.Test.YtngpiejigefhoaaDoorRefPlace
import Derived.Test.YtngpiejigefhoaaDoorCards
import Derived.Test.YtngpiejigefhoaaDoorTie
import Derived.Deep.DeepCutAuto
namespace Go.Proofs.YtngpiejigefhoaaDoor.placeAsks
open Go.ChangeShapes Go.WideShapes Go.ChangeAt Go.RowKit Go.PlainAid

set_option maxRecDepth 100000 in
set_option maxHeartbeats 4000000 in
theorem walk (s : ByteArray) (_hm : s.size ≤ maxLen) (x y : Int) (w : World) (ht : Tabs w) :
    Calls Tryd.prog 4 #[.string s, .int .i64 x, .int .i64 y] w fun e w' => e = .returned (.bool true) ∧ Below w.heap.size w w' := by
  have HT := Lib.hid ht
  clear ht
  by_cases g1 : 600 < s.size
  · go_enter Tryd.func4, Tryd.ntmps4
    go_wp2_with fail
    refine (told2_any _ HT.out).mono ?_
    rintro e w1 ⟨rfl, q1⟩
    go_wp2
    go_ret
    exact ⟨rfl, q1⟩
  have g1' : decide (600 < (s.size : Int)) = false := by simp; omega
  have hs : s.size ≤ 1099511627776 := by omega
  have hn := nlc_le s s.size
  have HE := Lib.hid (fun W => ends_any s W)
  have HL := Lib.hid (lines_any s w hs)
  have HR := Lib.hid (fun W => rlines_any s W hs)
  have HI : Hid (∀ j, j < nlc s s.size + 1 → ∀ W, Calls Tryd.prog 9 #[.string s, .int .i64 ((j : Int) + 1)] W fun e w' => e = .returned (.tuple #[.int .i64 (lb s s.size j), .int .i64 0]) ∧ Below W.heap.size W w') := fun j h W => start_in s j W hs h
  have HO : Hid (∀ (y : Int), (y < 1 ∨ (nlc s s.size : Int) + 1 < y) → ∀ W, Calls Tryd.prog 9 #[.string s, .int .i64 y] W fun e w' => e = .returned (.tuple #[.int .i64 0, .int .i64 6]) ∧ Below W.heap.size W w') := fun y h W => start_out s y W hs h
  have H1 := Lib.hid (fun W => line_any s x W hs)
  have H2 := Lib.hid (fun W => rline_any s x W hs)
  have H3 := Lib.hid (fun W (hT : Tabs W) => column_any s x W hT hs)
  have H4 := Lib.hid (fun W => rcolumn_any s x W hs)
  obtain ⟨C, hC⟩ : ∃ C, C = ct (ahead s x) 0 := ⟨_, rfl⟩
  rw [← hC] at H3 H4
  obtain ⟨R, hR⟩ : ∃ R, R = nlc s (cl s x) := ⟨_, rfl⟩
  rw [← hR] at H1 H2
  clear hC hR
  go_enter Tryd.func4, Tryd.ntmps4
  go_wp2_with fail
  refine HL.out.mono ?_
  rintro e w1 ⟨g, cap, rfl, hg0, hg, hc, hb1⟩
  have C1 := Lib.hid hc
  have B1 := Lib.hid hb1
  clear hc hb1
  go_wp2_with fail
  refine (HR.out _).mono ?_
  rintro e w2 ⟨g', cap', rfl, hg0', hg', hc', hb2⟩
  have C2 := Lib.hid hc'
  have C1' : Hid (∀ j, j < nlc s s.size + 1 → w2.cell? ⟨g, j, none⟩ = some (.int .i64 (lb s s.size j))) := fun j hj => (hb2.cell (p := ⟨g, j, none⟩) hg).trans (C1.out j hj)
  have B2 := Lib.hid (B1.out.trans (hb2.mono B1.out.size))
  have hgg : g < w2.heap.size := Nat.lt_of_lt_of_le hg hb2.size
  clear hc' hb2
  obtain ⟨z, hz⟩ : ∃ z, z = lb s s.size := ⟨_, rfl⟩
  rw [← hz] at C1' C2 HI
  obtain ⟨N, hN⟩ : ∃ N, N = nlc s s.size := ⟨_, rfl⟩
  rw [← hN] at C1' C2 HI HE HO hn ⊢
  clear hN hz
  go_wp2_with fail
  refine (HE.out _).mono ?_
  rintro e w3 ⟨rfl, rfl⟩
  go_wp2_with fail
  go_loopw [9] (fun i wr => ∃ k : Nat, k ≤ N + 1 ∧ i = .int .i64 k ∧ Hid (∃ n, wr = w2.drewN n)) (fun i _ => N + 1 - (intOf i).toNat)
  case atStart => exact ⟨0, Nat.zero_le _, rfl, 0, rfl⟩
  case round =>
    obtain ⟨k, hk, rfl, HW⟩ := hrel
    obtain ⟨n0, rfl⟩ := HW.out
    by_cases hlt : k < N + 1
    · have c1 := C1'.out k hlt
      have c2 := C2.out k hlt
      go_wp2_with fail
      go_quiet (fail)
      go_wp2_with fail
      go_roundw
      case rel => exact ⟨k + 1, hlt, by go_num, ⟨_, rfl⟩⟩
      case measure => simp [intOf]; omega
    · obtain rfl : k = N + 1 := by omega
      have T2 := Lib.hid ((HT.out.below B2.out).drewN n0)
      have B3 := Lib.hid (B2.out.trans ((Below.ofDrewN w2 n0).mono B2.out.size))
      by_cases h0 : y < 1
      · go_wp2_with fail
        refine (HO.out _ (.inl h0) _).mono ?_
        rintro e w4 ⟨rfl, b4⟩
        have B4 := Lib.hid (B3.out.trans (b4.mono B3.out.size))
        clear b4
        go_wp2_with fail
        refine (told2_any _ (HT.out.below B4.out)).mono ?_
        rintro e w5 ⟨rfl, b5⟩
        have B5 := Lib.hid (B4.out.trans (b5.mono B4.out.size))
        clear b5
        go_wp2_with fail
        refine (H1.out _).mono ?_
        rintro e w6 ⟨rfl, b6⟩
        have B6 := Lib.hid (B5.out.trans (b6.mono B5.out.size))
        clear b6
        go_wp2_with fail
        refine (H2.out _).mono ?_
        rintro e w7 ⟨rfl, rfl⟩
        go_wp2_with fail
        refine (H3.out _ (HT.out.below B6.out)).mono ?_
        rintro e w7 ⟨rfl, b7⟩
        have B7 := Lib.hid (B6.out.trans (b7.mono B6.out.size))
        clear b7
        go_wp2_with fail
        refine (H4.out _).mono ?_
        rintro e w8 ⟨rfl, n8, rfl⟩
        go_wp2
        go_ret
        exact ⟨rfl, B7.out.trans ((Below.ofDrewN _ _).mono B7.out.size)⟩
      by_cases h1 : (N : Int) + 1 < y
      · have h0' : 1 ≤ y := by omega
        have h1' : decide (y ≤ (N : Int) + 1) = false := by simp; omega
        go_wp2_with fail
        refine (HO.out _ (.inr h1) _).mono ?_
        rintro e w4 ⟨rfl, b4⟩
        have B4 := Lib.hid (B3.out.trans (b4.mono B3.out.size))
        clear b4
        go_wp2_with fail
        refine (told2_any _ (HT.out.below B4.out)).mono ?_
        rintro e w5 ⟨rfl, b5⟩
        have B5 := Lib.hid (B4.out.trans (b5.mono B4.out.size))
        clear b5
        go_wp2_with fail
        refine (H1.out _).mono ?_
        rintro e w6 ⟨rfl, b6⟩
        have B6 := Lib.hid (B5.out.trans (b6.mono B5.out.size))
        clear b6
        go_wp2_with fail
        refine (H2.out _).mono ?_
        rintro e w7 ⟨rfl, rfl⟩
        go_wp2_with fail
        refine (H3.out _ (HT.out.below B6.out)).mono ?_
        rintro e w7 ⟨rfl, b7⟩
        have B7 := Lib.hid (B6.out.trans (b7.mono B6.out.size))
        clear b7
        go_wp2_with fail
        refine (H4.out _).mono ?_
        rintro e w8 ⟨rfl, n8, rfl⟩
        go_wp2
        go_ret
        exact ⟨rfl, B7.out.trans ((Below.ofDrewN _ _).mono B7.out.size)⟩
      · obtain ⟨j, rfl⟩ : ∃ j : Nat, y = (j : Int) + 1 := ⟨(y - 1).toNat, by omega⟩
        have hj : j < N + 1 := by omega
        clear h0 h1
        go_wp2_with fail
        refine (HI.out _ hj _).mono ?_
        rintro e w4 ⟨rfl, b4⟩
        have B4 := Lib.hid (B3.out.trans (b4.mono B3.out.size))
        have c2 : w4.cell? ⟨g', j, none⟩ = some (.int .i64 (z j)) := (b4.cell (p := ⟨g', j, none⟩) hg').trans (C2.out j hj)
        clear b4
        go_wp2_with fail
        refine (told2_any _ (HT.out.below B4.out)).mono ?_
        rintro e w5 ⟨rfl, b5⟩
        have B5 := Lib.hid (B4.out.trans (b5.mono B4.out.size))
        clear b5
        go_wp2_with fail
        refine (H1.out _).mono ?_
        rintro e w6 ⟨rfl, b6⟩
        have B6 := Lib.hid (B5.out.trans (b6.mono B5.out.size))
        clear b6
        go_wp2_with fail
        refine (H2.out _).mono ?_
        rintro e w7 ⟨rfl, rfl⟩
        go_wp2_with fail
        refine (H3.out _ (HT.out.below B6.out)).mono ?_
        rintro e w7 ⟨rfl, b7⟩
        have B7 := Lib.hid (B6.out.trans (b7.mono B6.out.size))
        clear b7
        go_wp2_with fail
        refine (H4.out _).mono ?_
        rintro e w8 ⟨rfl, n8, rfl⟩
        go_wp2
        go_ret
        exact ⟨rfl, B7.out.trans ((Below.ofDrewN _ _).mono B7.out.size)⟩
set_option maxRecDepth 100000 in
theorem lifted (os : Os) (started : os.Started) (H : Type) (enc : TypeId × Value → H) :
    ReturnsInHanded {} Tryd.checked os 4 .any (fun w args => (Rows.placeAsksSpec.pre enc Tryd.prog Tryd.f4 [] false w args ∧ laidMetH Tryd.prog utfLaid w) ∧ sizedMet enc Tryd.prog Tryd.f4 (OpenSpec.ofChange Rows.placeAsksSpec) false w args)
      (Rows.placeAsksSpec.post enc Tryd.prog Tryd.f4 false true false false) := by
  refine returnsInHanded_of_change_and (C := Tryd.checked) (X := fun w _ => laidMetH Tryd.prog utfLaid w) (fun _ _ _ hh h => h.of_heap hh) own started (by kernel_rfl) Tryd.func4
    (ChangeSpec.witness_shaped (enc := enc) (C := Tryd.checked) (os := os) (X := fun w _ => laidMetH Tryd.prog utfLaid w) false (World.doorLaid Tryd.prog 400 os) #[.string ByteArray.empty, .int .i64 0, .int .i64 0] 8 rfl (World.shaped_of_RefB (by kernel_rfl) (by kernel_rfl)) (by kernel_rfl) (by kernel_rfl) (by kernel_rfl) (door_met os _)) ?_
  intro W base args ds gs before hval0 hW _ _ hL _
  have hval : ∀ (j : Nat) t v, Tryd.f4.params[j]? = some t → args[j]? = some v → Value.okWide Tryd.prog W .any base t v := hval0
  have hW' := hW
  obtain ⟨p, q, hA0, hV, rfl, hfz, hnd⟩ := hW
  have hA : DataW.TrodAll enc Tryd.prog W 0 (fun _ => true) true Tryd.f4.params.toList args.toList ds p := hA0
  rw [Tryd.params4] at hA hval
  obtain ⟨v0, vs0, d0, ds0, p0, q0, hargs, rfl, rfl, h0, r0⟩ := trodAll_cons hA
  obtain ⟨v1, vs1, d1, ds1, p1, q1, rfl, rfl, rfl, h1, r1⟩ := trodAll_cons r0
  obtain ⟨v2, vs2, d2, ds2, p2, q2, rfl, rfl, rfl, h2, r2⟩ := trodAll_cons r1
  obtain ⟨rfl, rfl, rfl⟩ := trodAll_nil r2
  obtain rfl : args = #[v0, v1, v2] := by cases args; simp_all
  obtain ⟨rfl, rfl⟩ := trodVars_none hV
  obtain ⟨a0, rfl, rfl, rfl, w0⟩ := Go.ChangeMaps.open_string Tryd.underlying9 (hval 0 9 v0 rfl rfl) h0
  obtain ⟨a1, rfl, rfl, rfl, w1⟩ := open_int Tryd.underlying3 (hval 1 3 v1 rfl rfl) h1
  obtain ⟨a2, rfl, rfl, rfl, w2⟩ := open_int Tryd.underlying3 (hval 2 3 v2 rfl rfl) h2
  clear hA0 hval0
  simp only [List.append_nil] at hW'
  refine (walk a0 w0 a1 a2 W (tabs_of_laid hL)).mono fun e W' ⟨he, bel⟩ => ?_
  subst he
  exact ⟨_, rfl, _, _, _, [], _, [], hW', trodAll_mk1 (shut_bool Tryd.underlying4 _), (trodAll_cons_mk (Go.ChangeMaps.shut_string Tryd.underlying9 w0) (trodAll_cons_mk (shut_int Tryd.underlying3 w1) (trodAll_cons_mk (shut_int Tryd.underlying3 w2) trodAll_mk0))), rfl, bel.frame _, fun h => by cases h⟩
theorem over : Rows.PlaceAsksSaid :=
  OpenClaim.holds_of_wide 4 Tryd.f4 rfl rfl rfl rfl rfl rfl rfl ⟨rfl, rfl, rfl, rfl, rfl⟩ rfl rfl rfl rfl rfl (by kernel_rfl) Tryd.func4 (by kernel_rfl)
    (of_decide_eq_true (by kernel_rfl)) (by unfold Func.isWrapper; first | (rw [if_pos (by decide +kernel)]; kernel_rfl) | (rw [if_neg (by decide +kernel)]; exact ⟨rfl, rfl⟩))
    (fun os started H enc _ => lifted os started H enc)
/-- THE TIED CARD. -/
theorem proved : Rows.PlaceAsksCardSaid :=
  Claim7.holds_tied_plain_at .later [] [.data, .data, .data] true Rows.placeAsksCard.stood.harness false
    over (fun _ h => by cases h) (by kernel_rfl) (fun _ h => by cases h) placeAsks_row_tie rfl ⟨rfl, rfl⟩ (by kernel_rfl) rfl
    (fun f fn hf hfn => by
      obtain rfl : f = 4 := Option.some.inj ((show Tryd.prog.funcNamed "galley/galleylaw2.PlaceAsks" = some 4 by kernel_rfl).symm.trans hf) |>.symm
      obtain rfl : fn = Tryd.f4 := (Option.some.inj (Tryd.func4.symm.trans hfn)).symm
      exact ⟨by kernel_rfl, fun j t ht => by
        rw [Tryd.params4] at ht
        have hm : t ∈ [9, 3] := by
          have := Array.mem_of_getElem? ht
          simpa using this
        have hall : ([9, 3].all fun u => !Tryd.prog.wantsStandIn u) = true := by kernel_rfl
        exact (show Tryd.prog.wantsStandIn t = false by simpa using List.all_eq_true.1 hall t hm)⟩)
    (by kernel_rfl)
#print axioms proved
end Go.Proofs.YtngpiejigefhoaaDoor.placeAsks
