/-
  All bytes: what begins a name is within names, too; nothing beyond ASCII is; a text of q, two bytes and q is plain just if both are inner (promise 3.1): for every two bytes the statement WordBytes returns true. No condition.
-/
import Derived.Test.YtjlimnmcaganfaaBase
import Derived.Test.YtjlimnmcaganfaaConv
import Derived.Test.YtjlimnmcaganfaaWordTold
import Derived.Test.YtjlimnmcaganfaaRefWord
namespace Go.Proofs.Ytjlimnmcaganfaa.wordBytes
open Go.ChangeShapes Go.WideShapes Go.ChangeAt Go.RowKit Go.PlainAid

set_option maxRecDepth 100000 in
theorem walk (a : Int) (ha : 0 ≤ a ∧ a ≤ 255) (c : Int) (hc : 0 ≤ c ∧ c ≤ 255) (w : World) :
    Calls Try.prog 4 #[.int .u8 a, .int .u8 c] w fun e w' => e = .returned (.bool true) ∧ Below w.heap.size w w' := by
  have hcv := fun (W : World) (t : TypeId) => conv_new W [u8 a, u8 c] #[.int .u8 a, .int .u8 c] 2 2 t rfl (fun j hj => by
    obtain rfl | rfl : j = 0 ∨ j = 1 := by simp at hj; omega
    · simpa using (u8_toNat ha).symm
    · simpa using (u8_toNat hc).symm)
  have hpl := pl_q (u8 a) (u8 c)
  rw [u8_toNat ha, u8_toNat hc] at hpl
  have hsz : (ByteArray.mk [u8 a, u8 c].toArray).size = 2 := rfl
  obtain ⟨T, hT⟩ : ∃ T : ByteArray, T = ⟨[u8 a, u8 c].toArray⟩ := ⟨_, rfl⟩
  rw [← hT] at hcv hpl hsz
  clear hT
  obtain ⟨b, hb⟩ : ∃ b, b = beg a := ⟨_, rfl⟩
  obtain ⟨ia, hia⟩ : ∃ x, x = inn a := ⟨_, rfl⟩
  obtain ⟨ic, hic⟩ : ∃ x, x = inn c := ⟨_, rfl⟩
  rw [← hia, ← hic] at hpl
  have HP : Hid (∀ W, Calls Try.prog 10 #[.string (⟨#[113]⟩ ++ T ++ ⟨#[113]⟩)] W fun e w' => e = .returned (.bool (ia && ic)) ∧ ∃ n, w' = W.drewN n) := fun W => by
    rw [← hpl]
    exact plain_any _ W (by rw [ByteArray.size_append, ByteArray.size_append, hsz]; decide)
  have HB : Hid (∀ W, Calls Try.prog 14 #[.int .u8 a] W fun e w' => e = .returned (.int .i64 b) ∧ W = w') := fun W => by rw [hb]; exact begins_any _ W
  have HA : Hid (∀ W, Calls Try.prog 12 #[.int .u8 a] W fun e w' => e = .returned (.bool ia) ∧ W = w') := fun W => by rw [hia]; exact inner_any _ W
  have HC : Hid (∀ W, Calls Try.prog 12 #[.int .u8 c] W fun e w' => e = .returned (.bool ic) ∧ W = w') := fun W => by rw [hic]; exact inner_any _ W
  have HV := Lib.hid hcv
  have hd : (decide (48 ≤ a) = false ∧ (b == 3) = false) ∨ (48 ≤ a ∧ decide (a ≤ 57) = false ∧ (b == 3) = false) ∨ (48 ≤ a ∧ a ≤ 57 ∧ (b == 3) = true) := by
    have h := beg_digit a
    rw [← hb] at h
    by_cases h1 : 48 ≤ a
    · by_cases h2 : a ≤ 57
      · exact .inr (.inr ⟨h1, h2, by rw [h, decide_eq_true h1, decide_eq_true h2]; rfl⟩)
      · exact .inr (.inl ⟨h1, decide_eq_false h2, by rw [h, decide_eq_false h2]; simp⟩)
    · exact .inl ⟨decide_eq_false h1, by rw [h, decide_eq_false h1]; rfl⟩
  have HD := Lib.hid hd
  have hcase : (decide (0 < b) = true ∧ ia = true ∧ decide (127 < a) = false) ∨ (decide (0 < b) = false ∧ (decide (127 < a) = false ∨ decide (127 < a) = true ∧ ia = false)) := by
    by_cases h0 : 0 < b
    · refine .inl ⟨decide_eq_true h0, ?_, ?_⟩
      · rw [hia]; exact inn_of_beg (by rw [← hb]; exact h0)
      · refine decide_eq_false fun h1 => ?_
        have := beg_none h1
        omega
    · refine .inr ⟨decide_eq_false h0, ?_⟩
      by_cases h1 : 127 < a
      · exact .inr ⟨decide_eq_true h1, by rw [hia]; exact inn_none h1⟩
      · exact .inl (decide_eq_false h1)
  clear hb hia hic hcv hpl hd
  rcases hcase with ⟨g0, rfl, g1⟩ | ⟨g0, g1 | ⟨g1, rfl⟩⟩
  all_goals
    go_enter Try.func4, Try.ntmps4
    go_wp2_with fail
    refine (HB.out _).mono ?_
    rintro e w1 ⟨rfl, rfl⟩
    go_wp2_with fail
    try (refine (HA.out _).mono ?_; rintro e w1 ⟨rfl, rfl⟩; go_wp2_with fail)
    rw [HV.out w 5]
    have B1 : Hid (Below w.heap.size w (w.alloc (.cells #[.int .u8 a, .int .u8 c] 5))) := (Below.refl _ _).alloc (Nat.le_refl _) _
    obtain ⟨w1, hw1⟩ : ∃ w1, w1 = w.alloc (.cells #[.int .u8 a, .int .u8 c] 5) := ⟨_, rfl⟩
    rw [← hw1] at B1 ⊢
    clear hw1
    simp only [Result.andThen]
    rw [Oper.upon_value]
    go_wp2_with fail
    refine (told3_any _).mono ?_
    rintro e w2 ⟨rfl, n1, rfl⟩
    go_wp2_with fail
    refine (HP.out _).mono ?_
    rintro e w2 ⟨rfl, n2, rfl⟩
    go_wp2_with fail
    refine (HA.out _).mono ?_
    rintro e w3 ⟨rfl, rfl⟩
    rcases HD.out with ⟨d1, d2⟩ | ⟨d1, d2, d3⟩ | ⟨d1, d2, d3⟩
    all_goals
      try cases ia
      all_goals
        go_wp2_with fail
        try (refine (HC.out _).mono ?_; rintro e w3 ⟨rfl, rfl⟩)
        cases ic
        all_goals
          go_wp2
          go_ret
          exact ⟨by first | rfl | (rw [d3, d2]; rfl) | (rw [d3, decide_eq_true d2]; rfl) | (rw [d2]; rfl), B1.out.trans ((drew_below w1 _).mono B1.out.size)⟩
set_option maxRecDepth 100000 in
theorem lifted (os : Os) (started : os.Started) (H : Type) (enc : TypeId × Value → H) :
    ReturnsInHanded {} Try.checked os 4 .any (Rows.wordBytesSpec.pre6 enc Try.prog Try.f4 Rows.wordBytesRow.domain false) (Rows.wordBytesSpec.post enc Try.prog Try.f4 false true false false) := by
  refine returnsInHanded_of_change (C := Try.checked) ownKnobNone started (by kernel_rfl) Try.func4
    (ChangeSpec.witness6 (enc := enc) (C := Try.checked) false ⟨#[], #[.int .u8 0, .int .u8 0], []⟩ 8 (by kernel_rfl) (by kernel_rfl) (by kernel_rfl) (by kernel_rfl)) ?_
  intro W base args ds gs before hval0 hW hcnd _
  have hval : ∀ (j : Nat) t v, Try.f4.params[j]? = some t → args[j]? = some v → Value.okWide Try.prog W .any base t v := hval0
  have hW' := hW
  obtain ⟨p, q, hA0, hV, rfl, hfz, hnd⟩ := hW
  have hA : DataW.TrodAll enc Try.prog W 0 (fun _ => true) true Try.f4.params.toList args.toList ds p := hA0
  rw [Try.params4] at hA hval
  obtain ⟨v0, vs0, d0, ds0, p0, q0, hargs, rfl, rfl, h0, r0⟩ := trodAll_cons hA
  obtain ⟨v1, vs1, d1, ds1, p1, q1, rfl, rfl, rfl, h1, r1⟩ := trodAll_cons r0
  obtain ⟨rfl, rfl, rfl⟩ := trodAll_nil r1
  obtain rfl : args = #[v0, v1] := by cases args; simp_all
  obtain ⟨rfl, rfl⟩ := trodVars_none hV
  obtain ⟨a0, rfl, rfl, rfl, w0⟩ := open_int Try.underlying5 (hval 0 5 v0 rfl rfl) h0
  obtain ⟨a1, rfl, rfl, rfl, w1⟩ := open_int Try.underlying5 (hval 1 5 v1 rfl rfl) h1
  clear hA0 hval0
  simp only [List.append_nil] at hW'
  refine (walk a0 (byte_fits w0) a1 (byte_fits w1) W).mono fun e W' ⟨he, bel⟩ => ?_
  subst he
  exact ⟨_, rfl, _, _, _, [], _, [], hW', trodAll_mk1 (shut_bool Try.underlying4 _), (trodAll_cons_mk (shut_int Try.underlying5 w0) (trodAll_cons_mk (shut_int Try.underlying5 w1) trodAll_mk0)), rfl, bel.frame _, fun h => by cases h⟩
theorem over : Rows.WordBytesSaid :=
  OpenClaim.holds_of_wide 4 Try.f4 rfl rfl rfl rfl rfl rfl rfl ⟨rfl, rfl, rfl, rfl, rfl⟩ rfl rfl rfl rfl rfl (by kernel_rfl) Try.func4 (by kernel_rfl)
    (of_decide_eq_true (by kernel_rfl)) (by unfold Func.isWrapper; first | (rw [if_pos (by decide +kernel)]; kernel_rfl) | (rw [if_neg (by decide +kernel)]; exact ⟨rfl, rfl⟩))
    (fun os started H enc _ => lifted os started H enc)
/-- THE STATEMENT. -/
theorem proved : Rows.WordBytesSaid := over
#print axioms proved
end Go.Proofs.Ytjlimnmcaganfaa.wordBytes
