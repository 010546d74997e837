/-
  Names, reserved ones, and their bytes, are what the document says (promise 3.1): for every text and every byte the statement WordAsks returns true. No condition.
-/
import Derived.Test.YtjlimnmcaganfaaBase
import Derived.Test.YtjlimnmcaganfaaWordTold
import Derived.Test.YtjlimnmcaganfaaRefWord
namespace Go.Proofs.Ytjlimnmcaganfaa.wordAsks
open Go.ChangeShapes Go.WideShapes Go.ChangeAt Go.RowKit Go.PlainAid

set_option maxRecDepth 100000 in
theorem walk (s : ByteArray) (hm : s.size ≤ maxLen) (c : Int) (_hc : 0 ≤ c ∧ c ≤ 255) (w : World) :
    Calls Try.prog 3 #[.string s, .int .u8 c] w fun e w' => e = .returned (.bool true) ∧ Below w.heap.size w w' := by
  clear _hc
  by_cases g1 : 100 < s.size
  · go_enter Try.func3, Try.ntmps3
    go_wp2_with fail
    refine (told3_any _).mono ?_
    rintro e w1 ⟨rfl, n, rfl⟩
    go_wp2
    go_ret
    exact ⟨rfl, drew_below _ _⟩
  have g1' : decide (100 < (s.size : Int)) = false := by simp; omega
  have HM := Lib.hid hm
  clear hm g1
  go_enter Try.func3, Try.ntmps3
  go_wp2_with fail
  refine (told3_any _).mono ?_
  rintro e w1 ⟨rfl, n, rfl⟩
  go_wp2_with fail
  refine (reserved_any _ _).mono ?_
  rintro e w1 ⟨rfl, rfl⟩
  go_wp2_with fail
  refine (rreserved_any _ _).mono ?_
  rintro e w1 ⟨rfl, b1⟩
  have B1 : Hid (Below w.heap.size w w1) := (drew_below w _).trans b1
  clear b1
  obtain ⟨r, hr⟩ : ∃ r, r = rs s := ⟨_, rfl⟩
  rw [← hr]
  clear hr
  have er : (r == r) = true := beq_self_eq_true _
  go_wp2_with fail
  refine (plain_any _ _ HM.out).mono ?_
  rintro e w2 ⟨rfl, n2, rfl⟩
  go_wp2_with fail
  refine (rplain_any _ _ HM.out).mono ?_
  rintro e w2 ⟨rfl, b2⟩
  have B2 : Hid (Below w.heap.size w w2) := B1.out.trans (((drew_below w1 _).trans b2).mono B1.out.size)
  clear b2
  obtain ⟨p, hp⟩ : ∃ p, p = pl s := ⟨_, rfl⟩
  rw [← hp]
  clear hp
  have ep : (p == p) = true := beq_self_eq_true _
  go_wp2_with fail
  refine (inner_any _ _).mono ?_
  rintro e w3 ⟨rfl, rfl⟩
  go_wp2_with fail
  refine (rinner_any _ _).mono ?_
  rintro e w3 ⟨rfl, rfl⟩
  obtain ⟨i, hi⟩ : ∃ i, i = inn c := ⟨_, rfl⟩
  rw [← hi]
  clear hi
  have ei : (i == i) = true := beq_self_eq_true _
  go_wp2_with fail
  refine (begins_any _ _).mono ?_
  rintro e w3 ⟨rfl, rfl⟩
  go_wp2_with fail
  refine (rbegins_any _ _).mono ?_
  rintro e w3 ⟨rfl, rfl⟩
  obtain ⟨b, hb⟩ : ∃ b, b = beg c := ⟨_, rfl⟩
  rw [← hb]
  clear hb
  have eb : (b == b) = true := beq_self_eq_true _
  go_wp2_with fail
  go_ret
  exact ⟨rfl, B2.out⟩
set_option maxRecDepth 100000 in
theorem lifted (os : Os) (started : os.Started) (H : Type) (enc : TypeId × Value → H) :
    ReturnsInHanded {} Try.checked os 3 .any (Rows.wordAsksSpec.pre6 enc Try.prog Try.f3 Rows.wordAsksRow.domain false) (Rows.wordAsksSpec.post enc Try.prog Try.f3 false true false false) := by
  refine returnsInHanded_of_change (C := Try.checked) ownKnobNone started (by kernel_rfl) Try.func3
    (ChangeSpec.witness6 (enc := enc) (C := Try.checked) false ⟨#[], #[.string ByteArray.empty, .int .u8 0], []⟩ 8 (by kernel_rfl) (by kernel_rfl) (by kernel_rfl) (by kernel_rfl)) ?_
  intro W base args ds gs before hval0 hW hcnd _
  have hval : ∀ (j : Nat) t v, Try.f3.params[j]? = some t → args[j]? = some v → Value.okWide Try.prog W .any base t v := hval0
  have hW' := hW
  obtain ⟨p, q, hA0, hV, rfl, hfz, hnd⟩ := hW
  have hA : DataW.TrodAll enc Try.prog W 0 (fun _ => true) true Try.f3.params.toList args.toList ds p := hA0
  rw [Try.params3] at hA hval
  obtain ⟨v0, vs0, d0, ds0, p0, q0, hargs, rfl, rfl, h0, r0⟩ := trodAll_cons hA
  obtain ⟨v1, vs1, d1, ds1, p1, q1, rfl, rfl, rfl, h1, r1⟩ := trodAll_cons r0
  obtain ⟨rfl, rfl, rfl⟩ := trodAll_nil r1
  obtain rfl : args = #[v0, v1] := by cases args; simp_all
  obtain ⟨rfl, rfl⟩ := trodVars_none hV
  obtain ⟨a0, rfl, rfl, rfl, w0⟩ := Go.ChangeMaps.open_string Try.underlying9 (hval 0 9 v0 rfl rfl) h0
  obtain ⟨a1, rfl, rfl, rfl, w1⟩ := open_int Try.underlying5 (hval 1 5 v1 rfl rfl) h1
  clear hA0 hval0
  simp only [List.append_nil] at hW'
  refine (walk a0 w0 a1 (byte_fits w1) W).mono fun e W' ⟨he, bel⟩ => ?_
  subst he
  exact ⟨_, rfl, _, _, _, [], _, [], hW', trodAll_mk1 (shut_bool Try.underlying4 _), (trodAll_cons_mk (Go.ChangeMaps.shut_string Try.underlying9 w0) (trodAll_cons_mk (shut_int Try.underlying5 w1) trodAll_mk0)), rfl, bel.frame _, fun h => by cases h⟩
theorem over : Rows.WordAsksSaid :=
  OpenClaim.holds_of_wide 3 Try.f3 rfl rfl rfl rfl rfl rfl rfl ⟨rfl, rfl, rfl, rfl, rfl⟩ rfl rfl rfl rfl rfl (by kernel_rfl) Try.func3 (by kernel_rfl)
    (of_decide_eq_true (by kernel_rfl)) (by unfold Func.isWrapper; first | (rw [if_pos (by decide +kernel)]; kernel_rfl) | (rw [if_neg (by decide +kernel)]; exact ⟨rfl, rfl⟩))
    (fun os started H enc _ => lifted os started H enc)
/-- THE STATEMENT. -/
theorem proved : Rows.WordAsksSaid := over
#print axioms proved
end Go.Proofs.Ytjlimnmcaganfaa.wordAsks
