/-
  What package utf's Next, Valid, Count and Put say of any text of at most 400 bytes, any place and any number is what the document's own answer says (promise 1.1): for every input the statement UtfReads returns true. The three tables are tied to the program's text by the given ties; no further condition.
-/
import Derived.Test.YtpdfkkjkbieieaaDoorUtfLaid
import Derived.Test.YtpdfkkjkbieieaaDoorRefUtf
import Derived.Test.YtpdfkkjkbieieaaDoorCards
import Derived.Test.YtpdfkkjkbieieaaDoorTie
namespace Go.Proofs.YtpdfkkjkbieieaaDoor.utfReads
open Go.ChangeShapes Go.WideShapes Go.ChangeAt Go.RowKit

/-- Both say the same of any place. -/
theorem both_at (s : ByteArray) (hs : s.size ≤ maxLen) (i : Int) : ∃ c l : Int,
    (∀ w, Tabs w → Calls Tryd.prog 9 #[.string s, .int .i64 i] w fun e w' => e = .returned (.tuple #[.int .i64 c, .int .i64 l]) ∧ ∃ n, w' = w.drewN n) ∧
    (∀ w, Calls Tryd.prog 10 #[.string s, .int .i64 i] w fun e w' => e = .returned (.tuple #[.int .i64 c, .int .i64 l]) ∧ ∃ n, w' = w.drewN n) := by
  by_cases h : i < 0 ∨ (s.size : Int) ≤ i
  · exact ⟨0, 0, fun w _ => next_out s i w h, fun w => rnext_out s i w h⟩
  · obtain ⟨k, rfl⟩ := Int.eq_ofNat_of_zero_le (show 0 ≤ i by omega)
    exact ⟨nc s k, nl s k, fun w ht => next_in s k w ht (by omega) hs, fun w => rnext_in s k w (by omega) hs⟩

set_option maxRecDepth 100000 in
set_option maxHeartbeats 4000000 in
theorem walk (s : ByteArray) (hs : s.size ≤ maxLen) (i : Int) (n : Int) (w : World) (ht : Tabs w) :
    Calls Tryd.prog 3 #[.string s, .int .i64 i, .int .i64 n] w fun e w' => e = .returned (.bool true) ∧ Below w.heap.size w w' := by
  have HT := Lib.hid ht
  have HS := Lib.hid hs
  unfold maxLen at hs
  clear ht
  by_cases g1 : 400 < s.size
  · go_enter Tryd.func3, Tryd.ntmps3
    go_wp2_with fail
    refine (told_any _ HT.out).mono ?_
    rintro e w1 ⟨rfl, q1⟩
    go_wp2
    go_ret
    exact ⟨rfl, q1⟩
  obtain ⟨c, l, N1, N2⟩ := both_at s HS.out i
  have HN1 := Lib.hid N1
  have HN2 := Lib.hid N2
  clear N1 N2
  go_enter Tryd.func3, Tryd.ntmps3
  go_wp2_with fail
  refine (HN1.out _ HT.out).mono ?_
  rintro e w1 ⟨rfl, n1, rfl⟩
  go_wp2_with fail
  refine (HN2.out _).mono ?_
  rintro e w1 ⟨rfl, n2, rfl⟩
  go_wp2_with fail
  go_loopw [11] (fun i wr => ∃ k : Nat, k ≤ s.size ∧ i = .int .i64 k ∧ Hid (∃ n, wr = w.drewN n)) (fun i _ => s.size - (intOf i).toNat)
  case atStart => exact ⟨0, Nat.zero_le _, rfl, ⟨_, rfl⟩⟩
  case round =>
    obtain ⟨k, hk, rfl, HW⟩ := hrel
    obtain ⟨n0, rfl⟩ := HW.out
    by_cases hlt : k < s.size
    · go_wp2_with fail
      refine (next_in s k _ (HT.out.drewN _) hlt HS.out).mono ?_
      rintro e w1 ⟨rfl, n3, rfl⟩
      go_wp2_with fail
      refine (rnext_in s k _ hlt HS.out).mono ?_
      rintro e w1 ⟨rfl, n4, rfl⟩
      go_wp2_with fail
      go_roundw
      case rel => exact ⟨k + 1, by omega, by go_num, ⟨_, rfl⟩⟩
      case measure => simp [intOf]; omega
    · go_wp2_with fail
      refine (told_any _ (HT.out.drewN _)).mono ?_
      rintro e w1 ⟨rfl, q1⟩
      have Q1 := Lib.hid ((Below.ofDrewN w _).trans q1)
      have HT1 := Lib.hid (HT.out.below Q1.out)
      clear q1
      go_wp2_with fail
      refine (valid_any s _ HT1.out HS.out).mono ?_
      rintro e w2 ⟨rfl, n5, rfl⟩
      go_wp2_with fail
      refine (rvalid_any s _ HS.out).mono ?_
      rintro e w2 ⟨rfl, n6, rfl⟩
      go_wp2_with fail
      refine (count_any s _ (HT1.out.drewN _) HS.out).mono ?_
      rintro e w2 ⟨rfl, n7, rfl⟩
      go_wp2_with fail
      refine (rcount_any s _ HS.out).mono ?_
      rintro e w2 ⟨rfl, n8, rfl⟩
      go_wp2_with fail
      refine (put_any n _ (HT1.out.drewN _)).mono ?_
      rintro e w3 ⟨rfl, q3⟩
      have Q3 := Lib.hid (((Below.ofDrewN w1 _).trans q3).mono Q1.out.size)
      clear q3
      go_wp2_with fail
      refine (rput_any n _).mono ?_
      rintro e w4 ⟨rfl, q4⟩
      have Q4 := Lib.hid (q4.mono (Nat.le_trans Q1.out.size Q3.out.size))
      clear q4
      go_wp2
      go_ret
      exact ⟨by simp, (Q1.out.trans Q3.out).trans Q4.out⟩

set_option maxRecDepth 100000 in
theorem lifted (os : Os) (started : os.Started) (H : Type) (enc : TypeId × Value → H) :
    ReturnsInHanded {} Tryd.checked os 3 .any (fun w args => (Rows.utfReadsSpec.pre enc Tryd.prog Tryd.f3 [] false w args ∧ laidMetH Tryd.prog utfLaid w) ∧ sizedMet enc Tryd.prog Tryd.f3 (OpenSpec.ofChange Rows.utfReadsSpec) false w args)
      (Rows.utfReadsSpec.post enc Tryd.prog Tryd.f3 false true false false) := by
  refine returnsInHanded_of_change_and (C := Tryd.checked) (X := fun w _ => laidMetH Tryd.prog utfLaid w) (fun _ _ _ hh h => h.of_heap hh) own started (by kernel_rfl) Tryd.func3
    (ChangeSpec.witness_shaped (enc := enc) (C := Tryd.checked) (os := os) (X := fun w _ => laidMetH Tryd.prog utfLaid w) false (World.doorLaid Tryd.prog 400 os) #[.string ByteArray.empty, .int .i64 0, .int .i64 0] 8 rfl (World.shaped_of_RefB (by kernel_rfl) (by kernel_rfl)) (by kernel_rfl) (by kernel_rfl) (by kernel_rfl) (door_met os _)) ?_
  intro W base args ds gs before hval0 hW _ _ hL _
  have hval : ∀ (j : Nat) t v, Tryd.f3.params[j]? = some t → args[j]? = some v → Value.okWide Tryd.prog W .any base t v := hval0
  have hW' := hW
  obtain ⟨p, q, hA0, hV, rfl, hfz, hnd⟩ := hW
  have hA : DataW.TrodAll enc Tryd.prog W 0 (fun _ => true) true Tryd.f3.params.toList args.toList ds p := hA0
  rw [Tryd.params3] at hA hval
  obtain ⟨v0, vs0, d0, ds0, p0, q0, hargs, rfl, rfl, h0, r0⟩ := trodAll_cons hA
  obtain ⟨v1, vs1, d1, ds1, p1, q1, rfl, rfl, rfl, h1, r1⟩ := trodAll_cons r0
  obtain ⟨v2, vs2, d2, ds2, p2, q2, rfl, rfl, rfl, h2, r2⟩ := trodAll_cons r1
  obtain ⟨rfl, rfl, rfl⟩ := trodAll_nil r2
  obtain rfl : args = #[v0, v1, v2] := by cases args; simp_all
  obtain ⟨rfl, rfl⟩ := trodVars_none hV
  obtain ⟨a0, rfl, rfl, rfl, w0⟩ := Go.ChangeMaps.open_string Tryd.underlying9 (hval 0 9 v0 rfl rfl) h0
  obtain ⟨a1, rfl, rfl, rfl, w1⟩ := open_int Tryd.underlying3 (hval 1 3 v1 rfl rfl) h1
  obtain ⟨a2, rfl, rfl, rfl, w2⟩ := open_int Tryd.underlying3 (hval 2 3 v2 rfl rfl) h2
  clear hA0 hval0
  simp only [List.append_nil] at hW'
  refine (walk a0 w0 a1 a2 W (tabs_of_laid hL)).mono fun e W' ⟨he, bel⟩ => ?_
  subst he
  exact ⟨_, rfl, _, _, _, [], _, [], hW', trodAll_mk1 (shut_bool Tryd.underlying4 _), (trodAll_cons_mk (Go.ChangeMaps.shut_string Tryd.underlying9 w0) (trodAll_cons_mk (shut_int Tryd.underlying3 w1) (trodAll_cons_mk (shut_int Tryd.underlying3 w2) trodAll_mk0))), rfl, bel.frame _, fun h => by cases h⟩
theorem over : Rows.UtfReadsSaid :=
  OpenClaim.holds_of_wide 3 Tryd.f3 rfl rfl rfl rfl rfl rfl rfl ⟨rfl, rfl, rfl, rfl, rfl⟩ rfl rfl rfl rfl rfl (by kernel_rfl) Tryd.func3 (by kernel_rfl)
    (of_decide_eq_true (by kernel_rfl)) (by unfold Func.isWrapper; first | (rw [if_pos (by decide +kernel)]; kernel_rfl) | (rw [if_neg (by decide +kernel)]; exact ⟨rfl, rfl⟩))
    (fun os started H enc _ => lifted os started H enc)
/-- THE TIED CARD. -/
theorem proved : Rows.UtfReadsCardSaid :=
  Claim7.holds_tied_plain_at .later [] [.data, .data, .data] true Rows.utfReadsCard.stood.harness false
    over (fun _ h => by cases h) (by kernel_rfl) (fun _ h => by cases h) utfReads_row_tie rfl ⟨rfl, rfl⟩ (by kernel_rfl) rfl
    (fun f fn hf hfn => by
      obtain rfl : f = 3 := Option.some.inj ((show Tryd.prog.funcNamed "galley/galleylaw1.UtfReads" = some 3 by kernel_rfl).symm.trans hf) |>.symm
      obtain rfl : fn = Tryd.f3 := (Option.some.inj (Tryd.func3.symm.trans hfn)).symm
      exact ⟨by kernel_rfl, fun j t ht => by
        rw [Tryd.params3] at ht
        have hm : t ∈ [9, 3] := by
          have := Array.mem_of_getElem? ht
          simpa using this
        have hall : ([9, 3].all fun u => !Tryd.prog.wantsStandIn u) = true := by kernel_rfl
        exact (show Tryd.prog.wantsStandIn t = false by simpa using List.all_eq_true.1 hall t hm)⟩)
    (by kernel_rfl)
#print axioms proved
end Go.Proofs.YtpdfkkjkbieieaaDoor.utfReads
