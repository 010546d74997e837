/-
  Two valid texts of at most 200 bytes each, one behind the other, are valid and have as many code points as both (promise 1.1): for every two texts the statement UtfParts returns true. The three tables are tied to the program's text by the given ties; no further condition.
-/
import Derived.Test.YtpdfkkjkbieieaaDoorUtfLaid
import Derived.Test.YtpdfkkjkbieieaaDoorCards
import Derived.Test.YtpdfkkjkbieieaaDoorTie
namespace Go.Proofs.YtpdfkkjkbieieaaDoor.utfParts
open Go.ChangeShapes Go.WideShapes Go.ChangeAt Go.RowKit

set_option maxRecDepth 100000 in
set_option maxHeartbeats 4000000 in
theorem walk (a : ByteArray) (ha : a.size ≤ maxLen) (b : ByteArray) (hb : b.size ≤ maxLen) (w : World) (ht : Tabs w) :
    Calls Tryd.prog 5 #[.string a, .string b] w fun e w' => e = .returned (.bool true) ∧ Below w.heap.size w w' := by
  have HT := Lib.hid ht
  have HA := Lib.hid ha
  have HB := Lib.hid hb
  unfold maxLen at ha hb
  clear ht
  by_cases g1 : 200 < a.size
  · go_enter Tryd.func5, Tryd.ntmps5
    go_wp2_with fail
    refine (told_any _ HT.out).mono ?_
    rintro e w1 ⟨rfl, q1⟩
    go_wp2
    go_ret
    exact ⟨rfl, q1⟩
  have g1' : decide (200 < (a.size : Int)) = false := by simp; omega
  by_cases g2 : 200 < b.size
  · go_enter Tryd.func5, Tryd.ntmps5
    go_wp2_with fail
    refine (told_any _ HT.out).mono ?_
    rintro e w1 ⟨rfl, q1⟩
    go_wp2
    go_ret
    exact ⟨rfl, q1⟩
  have g2' : decide (200 < (b.size : Int)) = false := by simp; omega
  have VA := Lib.hid (fun W (hT : Tabs W) => valid_any a W hT HA.out)
  have VB := Lib.hid (fun W (hT : Tabs W) => valid_any b W hT HB.out)
  by_cases va : vd a 0 = false
  · rw [va] at VA
    clear va
    go_enter Tryd.func5, Tryd.ntmps5
    go_wp2_with fail
    refine (VA.out _ HT.out).mono ?_
    rintro e w1 ⟨rfl, n1, rfl⟩
    go_wp2_with fail
    refine (told_any _ (HT.out.drewN _)).mono ?_
    rintro e w1 ⟨rfl, q1⟩
    go_wp2
    go_ret
    exact ⟨rfl, (Below.ofDrewN _ _).trans q1⟩
  have va' : vd a 0 = true := by simpa using va
  rw [va'] at VA
  by_cases vb : vd b 0 = false
  · rw [vb] at VB
    clear va va' vb
    go_enter Tryd.func5, Tryd.ntmps5
    go_wp2_with fail
    refine (VA.out _ HT.out).mono ?_
    rintro e w1 ⟨rfl, n1, rfl⟩
    go_wp2_with fail
    refine (VB.out _ (HT.out.drewN _)).mono ?_
    rintro e w1 ⟨rfl, n2, rfl⟩
    go_wp2_with fail
    refine (told_any _ (HT.out.drewN _)).mono ?_
    rintro e w1 ⟨rfl, q1⟩
    go_wp2
    go_ret
    exact ⟨rfl, (Below.ofDrewN _ _).trans q1⟩
  have vb' : vd b 0 = true := by simpa using vb
  rw [vb'] at VB
  have hab : (a ++ b).size ≤ maxLen := by rw [ByteArray.size_append]; unfold maxLen; omega
  have VC := Lib.hid (fun W (hT : Tabs W) => valid_any (a ++ b) W hT hab)
  have CC := Lib.hid (fun W (hT : Tabs W) => count_any (a ++ b) W hT hab)
  have CA := Lib.hid (fun W (hT : Tabs W) => count_any a W hT HA.out)
  have CB := Lib.hid (fun W (hT : Tabs W) => count_any b W hT HB.out)
  rw [vd_both va' vb'] at VC
  rw [ct_both b va'] at CC
  have l1 := ct_le a a.size 0 (by omega)
  have l2 := ct_le b b.size 0 (by omega)
  obtain ⟨na, ea⟩ : ∃ na, na = ct a 0 := ⟨_, rfl⟩
  obtain ⟨nb, eb⟩ : ∃ nb, nb = ct b 0 := ⟨_, rfl⟩
  rw [← ea] at CA CC l1
  rw [← eb] at CB CC l2
  clear ea eb va va' vb vb' hab
  go_enter Tryd.func5, Tryd.ntmps5
  go_wp2_with fail
  refine (VA.out _ HT.out).mono ?_
  rintro e w1 ⟨rfl, n1, rfl⟩
  go_wp2_with fail
  refine (VB.out _ (HT.out.drewN _)).mono ?_
  rintro e w1 ⟨rfl, n2, rfl⟩
  go_wp2_with fail
  refine (told_any _ (HT.out.drewN _)).mono ?_
  rintro e w1 ⟨rfl, q1⟩
  have Q1 := Lib.hid ((Below.ofDrewN w _).trans q1)
  have HT1 := Lib.hid (HT.out.below Q1.out)
  clear q1
  go_wp2_with fail
  refine (VC.out _ HT1.out).mono ?_
  rintro e w2 ⟨rfl, n3, rfl⟩
  go_wp2_with fail
  refine (CC.out _ (HT1.out.drewN _)).mono ?_
  rintro e w2 ⟨rfl, n4, rfl⟩
  go_wp2_with fail
  refine (CA.out _ (HT1.out.drewN _)).mono ?_
  rintro e w2 ⟨rfl, n5, rfl⟩
  go_wp2_with fail
  refine (CB.out _ (HT1.out.drewN _)).mono ?_
  rintro e w2 ⟨rfl, n6, rfl⟩
  go_wp2
  go_ret
  exact ⟨by simp, Q1.out.trans ((Below.ofDrewN _ _).mono Q1.out.size)⟩

set_option maxRecDepth 100000 in
theorem lifted (os : Os) (started : os.Started) (H : Type) (enc : TypeId × Value → H) :
    ReturnsInHanded {} Tryd.checked os 5 .any (fun w args => (Rows.utfPartsSpec.pre enc Tryd.prog Tryd.f5 [] false w args ∧ laidMetH Tryd.prog utfLaid w) ∧ sizedMet enc Tryd.prog Tryd.f5 (OpenSpec.ofChange Rows.utfPartsSpec) false w args)
      (Rows.utfPartsSpec.post enc Tryd.prog Tryd.f5 false true false false) := by
  refine returnsInHanded_of_change_and (C := Tryd.checked) (X := fun w _ => laidMetH Tryd.prog utfLaid w) (fun _ _ _ hh h => h.of_heap hh) own started (by kernel_rfl) Tryd.func5
    (ChangeSpec.witness_shaped (enc := enc) (C := Tryd.checked) (os := os) (X := fun w _ => laidMetH Tryd.prog utfLaid w) false (World.doorLaid Tryd.prog 400 os) #[.string ByteArray.empty, .string ByteArray.empty] 8 rfl (World.shaped_of_RefB (by kernel_rfl) (by kernel_rfl)) (by kernel_rfl) (by kernel_rfl) (by kernel_rfl) (door_met os _)) ?_
  intro W base args ds gs before hval0 hW _ _ hL _
  have hval : ∀ (j : Nat) t v, Tryd.f5.params[j]? = some t → args[j]? = some v → Value.okWide Tryd.prog W .any base t v := hval0
  have hW' := hW
  obtain ⟨p, q, hA0, hV, rfl, hfz, hnd⟩ := hW
  have hA : DataW.TrodAll enc Tryd.prog W 0 (fun _ => true) true Tryd.f5.params.toList args.toList ds p := hA0
  rw [Tryd.params5] at hA hval
  obtain ⟨v0, vs0, d0, ds0, p0, q0, hargs, rfl, rfl, h0, r0⟩ := trodAll_cons hA
  obtain ⟨v1, vs1, d1, ds1, p1, q1, rfl, rfl, rfl, h1, r1⟩ := trodAll_cons r0
  obtain ⟨rfl, rfl, rfl⟩ := trodAll_nil r1
  obtain rfl : args = #[v0, v1] := by cases args; simp_all
  obtain ⟨rfl, rfl⟩ := trodVars_none hV
  obtain ⟨a0, rfl, rfl, rfl, w0⟩ := Go.ChangeMaps.open_string Tryd.underlying9 (hval 0 9 v0 rfl rfl) h0
  obtain ⟨a1, rfl, rfl, rfl, w1⟩ := Go.ChangeMaps.open_string Tryd.underlying9 (hval 1 9 v1 rfl rfl) h1
  clear hA0 hval0
  simp only [List.append_nil] at hW'
  refine (walk a0 w0 a1 w1 W (tabs_of_laid hL)).mono fun e W' ⟨he, bel⟩ => ?_
  subst he
  exact ⟨_, rfl, _, _, _, [], _, [], hW', trodAll_mk1 (shut_bool Tryd.underlying4 _), (trodAll_cons_mk (Go.ChangeMaps.shut_string Tryd.underlying9 w0) (trodAll_cons_mk (Go.ChangeMaps.shut_string Tryd.underlying9 w1) trodAll_mk0)), rfl, bel.frame _, fun h => by cases h⟩
theorem over : Rows.UtfPartsSaid :=
  OpenClaim.holds_of_wide 5 Tryd.f5 rfl rfl rfl rfl rfl rfl rfl ⟨rfl, rfl, rfl, rfl, rfl⟩ rfl rfl rfl rfl rfl (by kernel_rfl) Tryd.func5 (by kernel_rfl)
    (of_decide_eq_true (by kernel_rfl)) (by unfold Func.isWrapper; first | (rw [if_pos (by decide +kernel)]; kernel_rfl) | (rw [if_neg (by decide +kernel)]; exact ⟨rfl, rfl⟩))
    (fun os started H enc _ => lifted os started H enc)
/-- THE TIED CARD. -/
theorem proved : Rows.UtfPartsCardSaid :=
  Claim7.holds_tied_plain_at .later [] [.data, .data, .data] true Rows.utfPartsCard.stood.harness false
    over (fun _ h => by cases h) (by kernel_rfl) (fun _ h => by cases h) utfParts_row_tie rfl ⟨rfl, rfl⟩ (by kernel_rfl) rfl
    (fun f fn hf hfn => by
      obtain rfl : f = 5 := Option.some.inj ((show Tryd.prog.funcNamed "galley/galleylaw1.UtfParts" = some 5 by kernel_rfl).symm.trans hf) |>.symm
      obtain rfl : fn = Tryd.f5 := (Option.some.inj (Tryd.func5.symm.trans hfn)).symm
      exact ⟨by kernel_rfl, fun j t ht => by
        rw [Tryd.params5] at ht
        have hm : t ∈ [9] := by
          have := Array.mem_of_getElem? ht
          simpa using this
        have hall : ([9].all fun u => !Tryd.prog.wantsStandIn u) = true := by kernel_rfl
        exact (show Tryd.prog.wantsStandIn t = false by simpa using List.all_eq_true.1 hall t hm)⟩)
    (by kernel_rfl)
#print axioms proved
end Go.Proofs.YtpdfkkjkbieieaaDoor.utfParts
