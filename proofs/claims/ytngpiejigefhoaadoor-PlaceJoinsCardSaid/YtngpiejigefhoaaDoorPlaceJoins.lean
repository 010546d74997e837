/-
  A text's lines go on in the one behind it: places behind are as many lines further on (promise 2.1): for every two texts and every integer the statement PlaceJoins returns true. The three tables of package utf are tied to the program's text by the given ties; no further condition.
-/
import Derived.Test.YtngpiejigefhoaaDoorUtfLaid
import Derived.Test.YtngpiejigefhoaaDoorPlaceTold
import Derived.Test.YtngpiejigefhoaaDoorCards
import Derived.Test.YtngpiejigefhoaaDoorTie
import Derived.Lib.Strings
namespace Go.Proofs.YtngpiejigefhoaaDoor.placeJoins
open Go.ChangeShapes Go.WideShapes Go.ChangeAt Go.RowKit Go.PlainAid

/-- Behind a byte 10 a place's line begins where it does in the text behind. -/
theorem ahead_app (a b : ByteArray) {k : Nat} (hk : k ≤ b.size) : ahead (a ++ ⟨#[10]⟩ ++ b) ((a.size : Int) + 1 + k) = ahead b k := by
  have e0 : (a ++ ⟨#[10]⟩ : ByteArray).size = a.size + 1 := by rw [ByteArray.size_append]; rfl
  have e1 : (a ++ ⟨#[10]⟩ ++ b).size = a.size + 1 + b.size := by rw [ByteArray.size_append, e0]
  have e2 : cl (a ++ ⟨#[10]⟩ ++ b) ((a.size : Int) + 1 + k) = a.size + 1 + k := by
    have := cl_nat (s := a ++ ⟨#[10]⟩ ++ b) (k := a.size + 1 + k) (by omega)
    rw [← this]; congr 1
  have hb10 : bt (a ++ ⟨#[10]⟩ ++ b) a.size = 10 := by
    rw [bt_app_l _ _ _ (by omega)]
    have := bt_app_r a ⟨#[10]⟩ 0
    rw [Nat.add_zero] at this
    rw [this]; rfl
  have e3 : ∀ j, nlc (a ++ ⟨#[10]⟩ ++ b) (a.size + 1 + j) = nlc a a.size + 1 + nlc b j := by
    intro j
    have h := nlc_app_r (a ++ ⟨#[10]⟩) b j
    rw [e0] at h
    rw [h]
    have h2 := nlc_app_r a ⟨#[10]⟩ 1
    rw [h2]
    have h3 : nlc ⟨#[10]⟩ 1 = 1 := by decide +kernel
    omega
  obtain ⟨r, hr⟩ : ∃ r, r = nlc b k := ⟨_, rfl⟩
  have hrb : r < nlc b b.size + 1 := by have := nlc_mono b hk; omega
  obtain ⟨q, hq⟩ : ∃ q, q = lb b b.size r := ⟨_, rfl⟩
  have hqk : q ≤ k := by rw [hq]; exact (lb_iff hrb).2 (by omega)
  have hline : lb (a ++ ⟨#[10]⟩ ++ b) (a ++ ⟨#[10]⟩ ++ b).size (nlc (a ++ ⟨#[10]⟩ ++ b) (a.size + 1 + k)) = a.size + 1 + q := by
    have h1 : nlc (a ++ ⟨#[10]⟩ ++ b) (a.size + 1 + k) = nlc (a ++ ⟨#[10]⟩ ++ b) (a.size + 1 + q) := by
      rw [e3, e3, ← hr, hq, nlc_lb hrb]
    rw [h1]
    refine lb_is (by rw [e1]; omega) (.inr ?_)
    by_cases hr0 : r = 0
    · have hq0 : q = 0 := by rw [hq, hr0, lb_zero]
      rw [hq0, Nat.add_zero, Nat.add_sub_cancel]; exact hb10
    · obtain ⟨h2, h3⟩ := (lb_all b b.size r hrb).2.2 (by omega)
      rw [← hq] at h2 h3
      have h4 := bt_app_r (a ++ ⟨#[10]⟩) b (q - 1)
      rw [e0] at h4
      rw [show a.size + 1 + q - 1 = a.size + 1 + (q - 1) by omega, h4]
      exact h3
  unfold ahead
  rw [e2, hline, cl_nat hk, ← hr, ← hq]
  exact ByteArray.extract_append_size_add' e0.symm
/-- So many lines. -/
def SoMany (n : Nat) (w : World) (e : Ending) (w' : World) : Prop := ∃ g cap, e = .returned (.slice (some ⟨g, 0, none⟩) n cap) ∧ Below w.heap.size w w'
theorem lines_many (s : ByteArray) (w : World) (hs : s.size ≤ 1099511627776) : Calls Tryd.prog 11 #[.string s] w fun e w' => SoMany (nlc s s.size + 1) w e w' :=
  (lines_any s w hs).mono fun _ _ ⟨g, cap, h, _, _, _, hb⟩ => ⟨g, cap, h, hb⟩

set_option maxRecDepth 100000 in
set_option maxHeartbeats 4000000 in
theorem walk (a : ByteArray) (_ha : a.size ≤ maxLen) (b : ByteArray) (_hb : b.size ≤ maxLen) (x : Int) (w : World) (ht : Tabs w) :
    Calls Tryd.prog 6 #[.string a, .string b, .int .i64 x] w fun e w' => e = .returned (.bool true) ∧ Below w.heap.size w w' := by
  have HT := Lib.hid ht
  clear ht
  by_cases g1 : 300 < a.size
  · go_enter Tryd.func6, Tryd.ntmps6
    go_wp2_with fail
    refine (told2_any _ HT.out).mono ?_
    rintro e w1 ⟨rfl, q1⟩
    go_wp2
    go_ret
    exact ⟨rfl, q1⟩
  have g1' : decide (300 < (a.size : Int)) = false := by simp; omega
  by_cases g2 : 300 < b.size
  · go_enter Tryd.func6, Tryd.ntmps6
    go_wp2_with fail
    refine (told2_any _ HT.out).mono ?_
    rintro e w1 ⟨rfl, q1⟩
    go_wp2
    go_ret
    exact ⟨rfl, q1⟩
  have g2' : decide (300 < (b.size : Int)) = false := by simp; omega
  obtain ⟨k, hk, er⟩ : ∃ k : Nat, k ≤ b.size ∧ (IntKind.u64.wrap x).tmod ((b.size : Int) + 1) = k := by
    have h0 := IntKind.wrap_u64 x
    have h1 := Int.tmod_nonneg (a := IntKind.u64.wrap x) ((b.size : Int) + 1) (by omega)
    have h2 := Int.tmod_lt_of_pos (IntKind.u64.wrap x) (b := (b.size : Int) + 1) (by omega)
    exact ⟨((IntKind.u64.wrap x).tmod ((b.size : Int) + 1)).toNat, by omega, by omega⟩
  have zab : (a ++ b).size = a.size + b.size := ByteArray.size_append
  have zan : (a ++ ⟨#[10]⟩ : ByteArray).size = a.size + 1 := by rw [ByteArray.size_append]; rfl
  have zanb : (a ++ ⟨#[10]⟩ ++ b).size = a.size + 1 + b.size := by rw [ByteArray.size_append, zan]
  have na := nlc_le a a.size
  have nb := nlc_le b b.size
  have nk := nlc_le b k
  have EA := Lib.hid (fun W => ends_any a W)
  have EB := Lib.hid (fun W => ends_any b W)
  have EAB : Hid (∀ W, Calls Tryd.prog 8 #[.string (a ++ b)] W fun e w' => e = .returned (.int .i64 ((nlc a a.size : Int) + nlc b b.size)) ∧ W = w') := by
    intro W
    have h := ends_any (a ++ b) W
    rw [zab, nlc_app_r, Int.natCast_add] at h
    exact h
  have LB : Hid (∀ W, Calls Tryd.prog 10 #[.string b, .int .i64 k] W fun e w' => e = .returned (.int .i64 ((nlc b k : Int) + 1)) ∧ Below W.heap.size W w') := by
    intro W
    have h := line_any b k W (by omega)
    rw [cl_nat hk] at h
    exact h
  have LAB : Hid (∀ W, Calls Tryd.prog 10 #[.string (a ++ b), .int .i64 ((a.size : Int) + k)] W fun e w' => e = .returned (.int .i64 ((nlc a a.size : Int) + ((nlc b k : Int) + 1))) ∧ Below W.heap.size W w') := by
    intro W
    have h := line_any (a ++ b) ((a.size + k : Nat) : Int) W (by omega)
    rw [cl_nat (by omega), nlc_app_r, Int.natCast_add, Int.natCast_add, Int.add_assoc] at h
    exact h
  have CB : Hid (∀ W, Tabs W → Calls Tryd.prog 14 #[.string b, .int .i64 k] W fun e w' => e = .returned (.int .i64 (ct (ahead b k) 0)) ∧ Below W.heap.size W w') := fun W hT => column_any b k W hT (by omega)
  have CAB : Hid (∀ W, Tabs W → Calls Tryd.prog 14 #[.string (a ++ ⟨#[10]⟩ ++ b), .int .i64 ((a.size : Int) + 1 + k)] W fun e w' => e = .returned (.int .i64 (ct (ahead b k) 0)) ∧ Below W.heap.size W w') := by
    intro W hT
    have h := column_any (a ++ ⟨#[10]⟩ ++ b) ((a.size : Int) + 1 + k) W hT (by omega)
    rw [ahead_app a b hk] at h
    exact h
  have LS : Hid (∀ W, Calls Tryd.prog 11 #[.string (a ++ ⟨#[10]⟩)] W fun e w' => SoMany (nlc a a.size + 2) W e w') := by
    intro W
    have h := lines_many (a ++ ⟨#[10]⟩) W (by omega)
    have h3 : nlc ⟨#[10]⟩ 1 = 1 := by decide +kernel
    rw [zan, nlc_app_r, h3] at h
    exact h
  obtain ⟨C, hC⟩ : ∃ C, C = ct (ahead b k) 0 := ⟨_, rfl⟩
  rw [← hC] at CB CAB
  obtain ⟨A, hA⟩ : ∃ A, A = nlc a a.size := ⟨_, rfl⟩
  rw [← hA] at EA EAB LAB LS na
  obtain ⟨B, hB⟩ : ∃ B, B = nlc b b.size := ⟨_, rfl⟩
  rw [← hB] at EB EAB nb
  obtain ⟨K, hK⟩ : ∃ K, K = nlc b k := ⟨_, rfl⟩
  rw [← hK] at LB LAB nk
  clear hC hA hB hK zab zan zanb
  go_enter Tryd.func6, Tryd.ntmps6
  go_wp2_with fail
  refine (EA.out _).mono ?_
  rintro e w1 ⟨rfl, rfl⟩
  go_wp2_with fail
  refine (EAB.out _).mono ?_
  rintro e w1 ⟨rfl, rfl⟩
  go_wp2_with fail
  refine (EB.out _).mono ?_
  rintro e w1 ⟨rfl, rfl⟩
  go_wp2_with fail
  refine (LAB.out _).mono ?_
  rintro e w1 ⟨rfl, b1⟩
  have B1 := Lib.hid b1
  clear b1
  go_wp2_with fail
  refine (LB.out _).mono ?_
  rintro e w2 ⟨rfl, b2⟩
  have B2 := Lib.hid (B1.out.trans (b2.mono B1.out.size))
  clear b2
  go_wp2_with fail
  refine (told2_any _ (HT.out.below B2.out)).mono ?_
  rintro e w3 ⟨rfl, b3⟩
  have B3 := Lib.hid (B2.out.trans (b3.mono B2.out.size))
  clear b3
  go_wp2_with fail
  refine (CAB.out _ (HT.out.below B3.out)).mono ?_
  rintro e w4 ⟨rfl, b4⟩
  have B4 := Lib.hid (B3.out.trans (b4.mono B3.out.size))
  clear b4
  go_wp2_with fail
  refine (CB.out _ (HT.out.below B4.out)).mono ?_
  rintro e w5 ⟨rfl, b5⟩
  have B5 := Lib.hid (B4.out.trans (b5.mono B4.out.size))
  clear b5
  go_wp2_with fail
  refine (LS.out _).mono ?_
  rintro e w6 ⟨g, cap, rfl, b6⟩
  have B6 := Lib.hid (B5.out.trans (b6.mono B5.out.size))
  clear b6
  go_wp2
  go_ret
  exact ⟨rfl, B6.out⟩
set_option maxRecDepth 100000 in
theorem lifted (os : Os) (started : os.Started) (H : Type) (enc : TypeId × Value → H) :
    ReturnsInHanded {} Tryd.checked os 6 .any (fun w args => (Rows.placeJoinsSpec.pre enc Tryd.prog Tryd.f6 [] false w args ∧ laidMetH Tryd.prog utfLaid w) ∧ sizedMet enc Tryd.prog Tryd.f6 (OpenSpec.ofChange Rows.placeJoinsSpec) false w args)
      (Rows.placeJoinsSpec.post enc Tryd.prog Tryd.f6 false true false false) := by
  refine returnsInHanded_of_change_and (C := Tryd.checked) (X := fun w _ => laidMetH Tryd.prog utfLaid w) (fun _ _ _ hh h => h.of_heap hh) own started (by kernel_rfl) Tryd.func6
    (ChangeSpec.witness_shaped (enc := enc) (C := Tryd.checked) (os := os) (X := fun w _ => laidMetH Tryd.prog utfLaid w) false (World.doorLaid Tryd.prog 400 os) #[.string ByteArray.empty, .string ByteArray.empty, .int .i64 0] 8 rfl (World.shaped_of_RefB (by kernel_rfl) (by kernel_rfl)) (by kernel_rfl) (by kernel_rfl) (by kernel_rfl) (door_met os _)) ?_
  intro W base args ds gs before hval0 hW _ _ hL _
  have hval : ∀ (j : Nat) t v, Tryd.f6.params[j]? = some t → args[j]? = some v → Value.okWide Tryd.prog W .any base t v := hval0
  have hW' := hW
  obtain ⟨p, q, hA0, hV, rfl, hfz, hnd⟩ := hW
  have hA : DataW.TrodAll enc Tryd.prog W 0 (fun _ => true) true Tryd.f6.params.toList args.toList ds p := hA0
  rw [Tryd.params6] at hA hval
  obtain ⟨v0, vs0, d0, ds0, p0, q0, hargs, rfl, rfl, h0, r0⟩ := trodAll_cons hA
  obtain ⟨v1, vs1, d1, ds1, p1, q1, rfl, rfl, rfl, h1, r1⟩ := trodAll_cons r0
  obtain ⟨v2, vs2, d2, ds2, p2, q2, rfl, rfl, rfl, h2, r2⟩ := trodAll_cons r1
  obtain ⟨rfl, rfl, rfl⟩ := trodAll_nil r2
  obtain rfl : args = #[v0, v1, v2] := by cases args; simp_all
  obtain ⟨rfl, rfl⟩ := trodVars_none hV
  obtain ⟨a0, rfl, rfl, rfl, w0⟩ := Go.ChangeMaps.open_string Tryd.underlying9 (hval 0 9 v0 rfl rfl) h0
  obtain ⟨a1, rfl, rfl, rfl, w1⟩ := Go.ChangeMaps.open_string Tryd.underlying9 (hval 1 9 v1 rfl rfl) h1
  obtain ⟨a2, rfl, rfl, rfl, w2⟩ := open_int Tryd.underlying3 (hval 2 3 v2 rfl rfl) h2
  clear hA0 hval0
  simp only [List.append_nil] at hW'
  refine (walk a0 w0 a1 w1 a2 W (tabs_of_laid hL)).mono fun e W' ⟨he, bel⟩ => ?_
  subst he
  exact ⟨_, rfl, _, _, _, [], _, [], hW', trodAll_mk1 (shut_bool Tryd.underlying4 _), (trodAll_cons_mk (Go.ChangeMaps.shut_string Tryd.underlying9 w0) (trodAll_cons_mk (Go.ChangeMaps.shut_string Tryd.underlying9 w1) (trodAll_cons_mk (shut_int Tryd.underlying3 w2) trodAll_mk0))), rfl, bel.frame _, fun h => by cases h⟩
theorem over : Rows.PlaceJoinsSaid :=
  OpenClaim.holds_of_wide 6 Tryd.f6 rfl rfl rfl rfl rfl rfl rfl ⟨rfl, rfl, rfl, rfl, rfl⟩ rfl rfl rfl rfl rfl (by kernel_rfl) Tryd.func6 (by kernel_rfl)
    (of_decide_eq_true (by kernel_rfl)) (by unfold Func.isWrapper; first | (rw [if_pos (by decide +kernel)]; kernel_rfl) | (rw [if_neg (by decide +kernel)]; exact ⟨rfl, rfl⟩))
    (fun os started H enc _ => lifted os started H enc)
/-- THE TIED CARD. -/
theorem proved : Rows.PlaceJoinsCardSaid :=
  Claim7.holds_tied_plain_at .later [] [.data, .data, .data] true Rows.placeJoinsCard.stood.harness false
    over (fun _ h => by cases h) (by kernel_rfl) (fun _ h => by cases h) placeJoins_row_tie rfl ⟨rfl, rfl⟩ (by kernel_rfl) rfl
    (fun f fn hf hfn => by
      obtain rfl : f = 6 := Option.some.inj ((show Tryd.prog.funcNamed "galley/galleylaw2.PlaceJoins" = some 6 by kernel_rfl).symm.trans hf) |>.symm
      obtain rfl : fn = Tryd.f6 := (Option.some.inj (Tryd.func6.symm.trans hfn)).symm
      exact ⟨by kernel_rfl, fun j t ht => by
        rw [Tryd.params6] at ht
        have hm : t ∈ [9, 3] := by
          have := Array.mem_of_getElem? ht
          simpa using this
        have hall : ([9, 3].all fun u => !Tryd.prog.wantsStandIn u) = true := by kernel_rfl
        exact (show Tryd.prog.wantsStandIn t = false by simpa using List.all_eq_true.1 hall t hm)⟩)
    (by kernel_rfl)
#print axioms proved
end Go.Proofs.YtngpiejigefhoaaDoor.placeJoins
