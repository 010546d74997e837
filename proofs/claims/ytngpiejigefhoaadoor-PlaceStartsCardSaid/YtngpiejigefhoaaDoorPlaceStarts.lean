/-
  Each line's beginning is told by package place's Start, others are out of range, and lines ahead begin ahead (promise 2.1): for every text and every integer the statement PlaceStarts returns true. The three tables of package utf are tied to the program's text by the given ties; no further condition.
-/
import Derived.Test.YtngpiejigefhoaaDoorUtfLaid
import Derived.Test.YtngpiejigefhoaaDoorPlaceTold
import Derived.Test.YtngpiejigefhoaaDoorCards
import Derived.Test.YtngpiejigefhoaaDoorTie
namespace Go.Proofs.YtngpiejigefhoaaDoor.placeStarts
open Go.ChangeShapes Go.WideShapes Go.ChangeAt Go.RowKit Go.PlainAid

set_option maxRecDepth 100000 in
set_option maxHeartbeats 4000000 in
theorem walk (s : ByteArray) (_hm : s.size ≤ maxLen) (x : Int) (w : World) (ht : Tabs w) :
    Calls Tryd.prog 3 #[.string s, .int .i64 x] w fun e w' => e = .returned (.bool true) ∧ Below w.heap.size w w' := by
  have HT := Lib.hid ht
  clear ht
  by_cases g1 : 300 < s.size
  · go_enter Tryd.func3, Tryd.ntmps3
    go_wp2_with fail
    refine (told2_any _ HT.out).mono ?_
    rintro e w1 ⟨rfl, q1⟩
    go_wp2
    go_ret
    exact ⟨rfl, q1⟩
  have g1' : decide (300 < (s.size : Int)) = false := by simp; omega
  have hs : s.size ≤ 1099511627776 := by omega
  have gb := get_bt s
  have hn := nlc_le s s.size
  have HE := Lib.hid (fun W => ends_any s W)
  obtain ⟨r, hr, er⟩ : ∃ r : Nat, r < nlc s s.size + 1 ∧ (IntKind.u64.wrap x).tmod ((nlc s s.size : Int) + 1) = r := by
    have h0 := IntKind.wrap_u64 x
    have h1 := Int.tmod_nonneg (a := IntKind.u64.wrap x) ((nlc s s.size : Int) + 1) (by omega)
    have h2 := Int.tmod_lt_of_pos (IntKind.u64.wrap x) (b := (nlc s s.size : Int) + 1) (by omega)
    exact ⟨((IntKind.u64.wrap x).tmod ((nlc s s.size : Int) + 1)).toNat, by omega, by omega⟩
  have HN : Hid (∀ j, j < nlc s s.size + 1 → ∀ W, Calls Tryd.prog 9 #[.string s, .int .i64 ((j : Int) + 1)] W fun e w' => e = .returned (.tuple #[.int .i64 (lb s s.size j), .int .i64 0]) ∧ Below W.heap.size W w') := fun j h W => start_in s j W hs h
  have HO : Hid (∀ (y : Int), (y < 1 ∨ (nlc s s.size : Int) + 1 < y) → ∀ W, Calls Tryd.prog 9 #[.string s, .int .i64 y] W fun e w' => e = .returned (.tuple #[.int .i64 0, .int .i64 6]) ∧ Below W.heap.size W w') := fun y h W => start_out s y W hs h
  have hq1 := lb_le hr
  have HL : Hid (∀ W, Calls Tryd.prog 10 #[.string s, .int .i64 (lb s s.size r)] W fun e w' => e = .returned (.int .i64 (1 + (r : Int))) ∧ Below W.heap.size W w') := by
    intro W
    have h := line_any s (lb s s.size r) W hs
    rw [cl_nat hq1, nlc_lb hr, Int.add_comm] at h
    exact h
  have HS := Lib.hid (HN.out r hr)
  have HA : Hid (1 ≤ r → lb s s.size (r - 1) < lb s s.size r ∧ 1 ≤ lb s s.size r ∧ bt s (lb s s.size r - 1) = 10) := by
    intro h
    have h1 := (lb_all s s.size r hr).2.2 h
    exact ⟨lb_lt hr (by omega), h1⟩
  obtain ⟨q, hq⟩ : ∃ q, q = lb s s.size r := ⟨_, rfl⟩
  rw [← hq] at HL HS HA hq1
  clear hq
  obtain ⟨N, hN⟩ : ∃ N, N = nlc s s.size := ⟨_, rfl⟩
  rw [← hN] at HE HN HO hr er hn
  clear hN
  go_enter Tryd.func3, Tryd.ntmps3
  go_wp2_with fail
  refine (HE.out _).mono ?_
  rintro e w1 ⟨rfl, rfl⟩
  go_wp2_with fail
  refine ((show ∀ W, Calls Tryd.prog 9 #[.string s, .int .i64 (1 + (r : Int))] W fun e w' => e = .returned (.tuple #[.int .i64 q, .int .i64 0]) ∧ Below W.heap.size W w' by rw [Int.add_comm]; exact HS.out) _).mono ?_
  rintro e w1 ⟨rfl, b1⟩
  have B1 := Lib.hid b1
  clear b1
  go_wp2_with fail
  refine (HO.out _ (by omega) _).mono ?_
  rintro e w2 ⟨rfl, b2⟩
  have B2 := Lib.hid (B1.out.trans (b2.mono B1.out.size))
  clear b2
  go_wp2_with fail
  refine (HO.out _ (by omega) _).mono ?_
  rintro e w3 ⟨rfl, b3⟩
  have B3 := Lib.hid (B2.out.trans (b3.mono B2.out.size))
  clear b3
  go_wp2_with fail
  refine (HO.out _ (by omega) _).mono ?_
  rintro e w4 ⟨rfl, b4⟩
  have B4 := Lib.hid (B3.out.trans (b4.mono B3.out.size))
  clear b4
  go_wp2_with fail
  refine (HL.out _).mono ?_
  rintro e w5 ⟨rfl, b5⟩
  have B5 := Lib.hid (B4.out.trans (b5.mono B4.out.size))
  clear b5
  go_wp2_with fail
  by_cases h0 : 1 ≤ r
  · obtain ⟨a1, a2, a3⟩ := HA.out h0
    have HP : Hid (∀ y : Int, y = r → ∀ W, Calls Tryd.prog 9 #[.string s, .int .i64 y] W fun e w' => e = .returned (.tuple #[.int .i64 (lb s s.size (r - 1)), .int .i64 0]) ∧ Below W.heap.size W w') := by
      intro y hy W
      have h := HN.out (r - 1) (by omega) W
      rw [show ((r - 1 : Nat) : Int) + 1 = y by omega] at h
      exact h
    obtain ⟨c, hc⟩ : ∃ c, c = lb s s.size (r - 1) := ⟨_, rfl⟩
    rw [← hc] at HP a1
    clear hc
    have k1 : q - 1 < s.size := by omega
    have e1 : ((q : Int) - 1).toNat = q - 1 := by omega
    have hbe : (bt s (q - 1) == 10) = true := by rw [a3]; rfl
    have hke : ((1 : Int) + r == 1) = false := beq_false_of_ne (by omega)
    have hke2 : ((r : Int) == 0) = false := beq_false_of_ne (by omega)
    clear a3
    refine (HP.out _ (by omega) _).mono ?_
    rintro e w6 ⟨rfl, b6⟩
    have B6 := Lib.hid (B5.out.trans (b6.mono B5.out.size))
    clear b6
    go_wp2_with fail
    refine (told2_any _ (HT.out.below B6.out)).mono ?_
    rintro e w7 ⟨rfl, b7⟩
    have B7 := Lib.hid (B6.out.trans (b7.mono B6.out.size))
    clear b7
    go_wp2
    go_ret
    exact ⟨rfl, B7.out⟩
  · refine (HO.out _ (by omega) _).mono ?_
    rintro e w6 ⟨rfl, b6⟩
    have B6 := Lib.hid (B5.out.trans (b6.mono B5.out.size))
    clear b6
    go_wp2_with fail
    refine (told2_any _ (HT.out.below B6.out)).mono ?_
    rintro e w7 ⟨rfl, b7⟩
    have B7 := Lib.hid (B6.out.trans (b7.mono B6.out.size))
    clear b7
    have hke : ((1 : Int) + r == 1) = true := by simp; omega
    go_wp2
    go_ret
    exact ⟨rfl, B7.out⟩
set_option maxRecDepth 100000 in
theorem lifted (os : Os) (started : os.Started) (H : Type) (enc : TypeId × Value → H) :
    ReturnsInHanded {} Tryd.checked os 3 .any (fun w args => (Rows.placeStartsSpec.pre enc Tryd.prog Tryd.f3 [] false w args ∧ laidMetH Tryd.prog utfLaid w) ∧ sizedMet enc Tryd.prog Tryd.f3 (OpenSpec.ofChange Rows.placeStartsSpec) false w args)
      (Rows.placeStartsSpec.post enc Tryd.prog Tryd.f3 false true false false) := by
  refine returnsInHanded_of_change_and (C := Tryd.checked) (X := fun w _ => laidMetH Tryd.prog utfLaid w) (fun _ _ _ hh h => h.of_heap hh) own started (by kernel_rfl) Tryd.func3
    (ChangeSpec.witness_shaped (enc := enc) (C := Tryd.checked) (os := os) (X := fun w _ => laidMetH Tryd.prog utfLaid w) false (World.doorLaid Tryd.prog 400 os) #[.string ByteArray.empty, .int .i64 0] 8 rfl (World.shaped_of_RefB (by kernel_rfl) (by kernel_rfl)) (by kernel_rfl) (by kernel_rfl) (by kernel_rfl) (door_met os _)) ?_
  intro W base args ds gs before hval0 hW _ _ hL _
  have hval : ∀ (j : Nat) t v, Tryd.f3.params[j]? = some t → args[j]? = some v → Value.okWide Tryd.prog W .any base t v := hval0
  have hW' := hW
  obtain ⟨p, q, hA0, hV, rfl, hfz, hnd⟩ := hW
  have hA : DataW.TrodAll enc Tryd.prog W 0 (fun _ => true) true Tryd.f3.params.toList args.toList ds p := hA0
  rw [Tryd.params3] at hA hval
  obtain ⟨v0, vs0, d0, ds0, p0, q0, hargs, rfl, rfl, h0, r0⟩ := trodAll_cons hA
  obtain ⟨v1, vs1, d1, ds1, p1, q1, rfl, rfl, rfl, h1, r1⟩ := trodAll_cons r0
  obtain ⟨rfl, rfl, rfl⟩ := trodAll_nil r1
  obtain rfl : args = #[v0, v1] := by cases args; simp_all
  obtain ⟨rfl, rfl⟩ := trodVars_none hV
  obtain ⟨a0, rfl, rfl, rfl, w0⟩ := Go.ChangeMaps.open_string Tryd.underlying9 (hval 0 9 v0 rfl rfl) h0
  obtain ⟨a1, rfl, rfl, rfl, w1⟩ := open_int Tryd.underlying3 (hval 1 3 v1 rfl rfl) h1
  clear hA0 hval0
  simp only [List.append_nil] at hW'
  refine (walk a0 w0 a1 W (tabs_of_laid hL)).mono fun e W' ⟨he, bel⟩ => ?_
  subst he
  exact ⟨_, rfl, _, _, _, [], _, [], hW', trodAll_mk1 (shut_bool Tryd.underlying4 _), (trodAll_cons_mk (Go.ChangeMaps.shut_string Tryd.underlying9 w0) (trodAll_cons_mk (shut_int Tryd.underlying3 w1) trodAll_mk0)), rfl, bel.frame _, fun h => by cases h⟩
theorem over : Rows.PlaceStartsSaid :=
  OpenClaim.holds_of_wide 3 Tryd.f3 rfl rfl rfl rfl rfl rfl rfl ⟨rfl, rfl, rfl, rfl, rfl⟩ rfl rfl rfl rfl rfl (by kernel_rfl) Tryd.func3 (by kernel_rfl)
    (of_decide_eq_true (by kernel_rfl)) (by unfold Func.isWrapper; first | (rw [if_pos (by decide +kernel)]; kernel_rfl) | (rw [if_neg (by decide +kernel)]; exact ⟨rfl, rfl⟩))
    (fun os started H enc _ => lifted os started H enc)
/-- THE TIED CARD. -/
theorem proved : Rows.PlaceStartsCardSaid :=
  Claim7.holds_tied_plain_at .later [] [.data, .data, .data] true Rows.placeStartsCard.stood.harness false
    over (fun _ h => by cases h) (by kernel_rfl) (fun _ h => by cases h) placeStarts_row_tie rfl ⟨rfl, rfl⟩ (by kernel_rfl) rfl
    (fun f fn hf hfn => by
      obtain rfl : f = 3 := Option.some.inj ((show Tryd.prog.funcNamed "galley/galleylaw2.PlaceStarts" = some 3 by kernel_rfl).symm.trans hf) |>.symm
      obtain rfl : fn = Tryd.f3 := (Option.some.inj (Tryd.func3.symm.trans hfn)).symm
      exact ⟨by kernel_rfl, fun j t ht => by
        rw [Tryd.params3] at ht
        have hm : t ∈ [9, 3] := by
          have := Array.mem_of_getElem? ht
          simpa using this
        have hall : ([9, 3].all fun u => !Tryd.prog.wantsStandIn u) = true := by kernel_rfl
        exact (show Tryd.prog.wantsStandIn t = false by simpa using List.all_eq_true.1 hall t hm)⟩)
    (by kernel_rfl)
#print axioms proved
end Go.Proofs.YtngpiejigefhoaaDoor.placeStarts
