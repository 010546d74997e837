/-
  A reserved word with one letter more, or one byte less, is none, and is plain with a letter more (promise 3.1): for every integer and every byte the statement WordTurned returns true. No condition.
-/
import Derived.Test.YtjlimnmcaganfaaBase
import Derived.Test.YtjlimnmcaganfaaConv
import Derived.Test.YtjlimnmcaganfaaWordTold
import Derived.Test.YtjlimnmcaganfaaRefWord
namespace Go.Proofs.Ytjlimnmcaganfaa.wordTurned
open Go.ChangeShapes Go.WideShapes Go.ChangeAt Go.RowKit Go.PlainAid

/-- What lies in the block of the words. -/
theorem word_val (r : Nat) (hr : r < 24) : ([Value.string { data := #[97, 102, 116, 101, 114] }, Value.string { data := #[97, 110, 100] }, Value.string { data := #[97, 110, 100, 97, 108, 115, 111] }, Value.string { data := #[98, 97, 110, 100] }, Value.string { data := #[98, 101, 103, 105, 110] }, Value.string { data := #[98, 110, 111, 116] }, Value.string { data := #[98, 111, 114] }, Value.string { data := #[98, 115, 108] }, Value.string { data := #[98, 115, 114] }, Value.string { data := #[98, 120, 111, 114] }, Value.string { data := #[99, 97, 115, 101] }, Value.string { data := #[99, 97, 116, 99, 104] }, Value.string { data := #[100, 105, 118] }, Value.string { data := #[101, 110, 100] }, Value.string { data := #[102, 117, 110] }, Value.string { data := #[105, 102] }, Value.string { data := #[110, 111, 116] }, Value.string { data := #[111, 102] }, Value.string { data := #[111, 114] }, Value.string { data := #[111, 114, 101, 108, 115, 101] }, Value.string { data := #[114, 101, 99, 101, 105, 118, 101] }, Value.string { data := #[114, 101, 109] }, Value.string { data := #[119, 104, 101, 110] }, Value.string { data := #[120, 111, 114] }] : List Value)[r]'hr = .string (wd r) := by
  show (ws.map fun l => Value.string ⟨l.toArray⟩)[r]'(by simpa [ws] using hr) = _
  rw [List.getElem_map]
  unfold wd
  rw [List.getD_eq_getElem?_getD, List.getElem?_eq_getElem (show r < ws.length from hr)]
  rfl
set_option maxRecDepth 100000 in
theorem walk (i : Int) (c : Int) (hc : 0 ≤ c ∧ c ≤ 255) (w : World) :
    Calls Try.prog 5 #[.int .i64 i, .int .u8 c] w fun e w' => e = .returned (.bool true) ∧ Below w.heap.size w w' := by
  obtain ⟨r, hr, er⟩ : ∃ r : Nat, r < 24 ∧ (IntKind.u64.wrap i).tmod 24 = (r : Int) := by
    have := IntKind.wrap_u64 i
    have h0 := Int.tmod_nonneg (a := IntKind.u64.wrap i) 24 (by omega)
    have h1 := Int.tmod_lt_of_pos (IntKind.u64.wrap i) (b := 24) (by omega)
    have h2 := Int.toNat_of_nonneg h0
    exact ⟨((IntKind.u64.wrap i).tmod 24).toNat, by omega, h2.symm⟩
  obtain ⟨d, hd, ed⟩ : ∃ d : Nat, d < 26 ∧ c.tmod 26 = (d : Int) := by
    have h0 := Int.tmod_nonneg (a := c) 26 hc.1
    have h1 := Int.tmod_lt_of_pos c (b := 26) (by omega)
    have h2 := Int.toNat_of_nonneg h0
    exact ⟨(c.tmod 26).toNat, by omega, h2.symm⟩
  obtain ⟨f1, f2, f3, f4, f5, f6, f7⟩ := wd_facts ⟨r, hr⟩
  obtain ⟨f8, f9⟩ := wd_more ⟨r, hr⟩ ⟨d, hd⟩
  simp only at f1 f2 f3 f4 f5 f6 f7 f8 f9
  have eu : IntKind.u8.wrap (97 + (d : Int)) = 97 + (d : Int) := IntWalk.u8_in _ (by omega)
  have hcv := fun (W : World) (t : TypeId) => conv_new W [UInt8.ofNat (97 + d)] #[.int .u8 (97 + (d : Int))] 1 1 t rfl (fun j hj => by
    obtain rfl : j = 0 := by simpa using hj
    have : ((UInt8.ofNat (97 + d)).toNat : Int) = 97 + (d : Int) := by rw [UInt8.toNat_ofNat']; omega
    simpa using this.symm)
  have hsz : (ByteArray.mk [UInt8.ofNat (97 + d)].toArray).size = 1 := rfl
  obtain ⟨T, hT⟩ : ∃ T : ByteArray, T = ⟨[UInt8.ofNat (97 + d)].toArray⟩ := ⟨_, rfl⟩
  rw [← hT] at hcv f8 f9 hsz
  clear hT
  have HS := word_val r hr
  obtain ⟨S, hS⟩ : ∃ S : ByteArray, S = wd r := ⟨_, rfl⟩
  rw [← hS] at f1 f2 f3 f4 f5 f6 f7 f8 f9 HS
  clear hS
  have e3 : (S.toList == [111, 114, 120]) = false := by rw [ByteArray.toList_eq]; exact f5
  clear f5
  have H1 : Hid (∀ W, Calls Try.prog 8 #[.string S] W fun e w' => e = .returned (.bool true) ∧ W = w') := fun W => t3_res S true f1 W
  have H2 : Hid (∀ W, Calls Try.prog 10 #[.string S] W fun e w' => e = .returned (.bool false) ∧ ∃ n, w' = W.drewN n) := fun W => t3_plain S false (by omega) f2 W
  have H3 : Hid (∀ W, Calls Try.prog 8 #[.string (S ++ T)] W fun e w' => e = .returned (.bool false) ∧ W = w') := fun W => t3_res _ false f8 W
  have H4 : Hid (∀ W, Calls Try.prog 10 #[.string (S ++ T)] W fun e w' => e = .returned (.bool true) ∧ ∃ n, w' = W.drewN n) := fun W => t3_plain _ true (by rw [ByteArray.size_append]; omega) f9 W
  have H5 : Hid (∀ W, Calls Try.prog 8 #[.string (S ++ ⟨#[95]⟩)] W fun e w' => e = .returned (.bool false) ∧ W = w') := fun W => t3_res _ false f3 W
  have H6 : Hid (∀ W, Calls Try.prog 8 #[.string (S.extract 0 (S.size - 1))] W fun e w' => e = .returned (.bool false) ∧ W = w') := fun W => t3_res _ false f4 W
  have HV := Lib.hid hcv
  clear f1 f2 f3 f4 f8 f9 hcv
  go_enter Try.func5, Try.ntmps5
  go_wp2_with fail
  obtain ⟨W1, hW1⟩ : ∃ W1 : World, W1 = w.alloc (.cells #[Value.string { data := #[97, 102, 116, 101, 114] }, Value.string { data := #[97, 110, 100] }, Value.string { data := #[97, 110, 100, 97, 108, 115, 111] }, Value.string { data := #[98, 97, 110, 100] }, Value.string { data := #[98, 101, 103, 105, 110] }, Value.string { data := #[98, 110, 111, 116] }, Value.string { data := #[98, 111, 114] }, Value.string { data := #[98, 115, 108] }, Value.string { data := #[98, 115, 114] }, Value.string { data := #[98, 120, 111, 114] }, Value.string { data := #[99, 97, 115, 101] }, Value.string { data := #[99, 97, 116, 99, 104] }, Value.string { data := #[100, 105, 118] }, Value.string { data := #[101, 110, 100] }, Value.string { data := #[102, 117, 110] }, Value.string { data := #[105, 102] }, Value.string { data := #[110, 111, 116] }, Value.string { data := #[111, 102] }, Value.string { data := #[111, 114] }, Value.string { data := #[111, 114, 101, 108, 115, 101] }, Value.string { data := #[114, 101, 99, 101, 105, 118, 101] }, Value.string { data := #[114, 101, 109] }, Value.string { data := #[119, 104, 101, 110] }, Value.string { data := #[120, 111, 114] }] 9) := ⟨_, rfl⟩
  have B1 : Hid (Below w.heap.size w W1) := by rw [hW1]; exact (Below.refl _ _).alloc (Nat.le_refl _) _
  have hz : W1.heap.size = w.heap.size + 1 := by rw [hW1]; simp
  have hv := HV.out W1 5
  rw [hz] at hv
  rw [← hW1, hv]
  have B2 : Hid (Below w.heap.size w (W1.alloc (.cells #[.int .u8 (97 + (d : Int))] 5))) := B1.out.alloc B1.out.size _
  obtain ⟨W2, hW2⟩ : ∃ W2, W2 = W1.alloc (.cells #[.int .u8 (97 + (d : Int))] 5) := ⟨_, rfl⟩
  rw [← hW2] at B2 ⊢
  clear hW1 hW2 HS hv B1 hz
  simp only [Result.andThen]
  rw [Oper.upon_value]
  have k1 : 0 ≤ (S.size : Int) - 1 := by omega
  have k2 : ((S.size : Int) - 1).toNat = S.size - 1 := by omega
  go_wp2_with fail
  refine (told3_any _).mono ?_
  rintro e w1 ⟨rfl, n1, rfl⟩
  go_wp2_with fail
  refine (H1.out _).mono ?_
  rintro e w1 ⟨rfl, rfl⟩
  go_wp2_with fail
  refine (H2.out _).mono ?_
  rintro e w1 ⟨rfl, n2, rfl⟩
  go_wp2_with fail
  refine (H3.out _).mono ?_
  rintro e w1 ⟨rfl, rfl⟩
  go_wp2_with fail
  refine (H4.out _).mono ?_
  rintro e w1 ⟨rfl, n3, rfl⟩
  go_wp2_with fail
  refine (H5.out _).mono ?_
  rintro e w1 ⟨rfl, rfl⟩
  go_wp2_with fail
  refine (H6.out _).mono ?_
  rintro e w1 ⟨rfl, rfl⟩
  go_wp2_with fail
  go_ret
  exact ⟨rfl, B2.out.trans ((drew_below _ _).mono B2.out.size)⟩
set_option maxRecDepth 100000 in
theorem lifted (os : Os) (started : os.Started) (H : Type) (enc : TypeId × Value → H) :
    ReturnsInHanded {} Try.checked os 5 .any (Rows.wordTurnedSpec.pre6 enc Try.prog Try.f5 Rows.wordTurnedRow.domain false) (Rows.wordTurnedSpec.post enc Try.prog Try.f5 false true false false) := by
  refine returnsInHanded_of_change (C := Try.checked) ownKnobNone started (by kernel_rfl) Try.func5
    (ChangeSpec.witness6 (enc := enc) (C := Try.checked) false ⟨#[], #[.int .i64 0, .int .u8 0], []⟩ 8 (by kernel_rfl) (by kernel_rfl) (by kernel_rfl) (by kernel_rfl)) ?_
  intro W base args ds gs before hval0 hW hcnd _
  have hval : ∀ (j : Nat) t v, Try.f5.params[j]? = some t → args[j]? = some v → Value.okWide Try.prog W .any base t v := hval0
  have hW' := hW
  obtain ⟨p, q, hA0, hV, rfl, hfz, hnd⟩ := hW
  have hA : DataW.TrodAll enc Try.prog W 0 (fun _ => true) true Try.f5.params.toList args.toList ds p := hA0
  rw [Try.params5] at hA hval
  obtain ⟨v0, vs0, d0, ds0, p0, q0, hargs, rfl, rfl, h0, r0⟩ := trodAll_cons hA
  obtain ⟨v1, vs1, d1, ds1, p1, q1, rfl, rfl, rfl, h1, r1⟩ := trodAll_cons r0
  obtain ⟨rfl, rfl, rfl⟩ := trodAll_nil r1
  obtain rfl : args = #[v0, v1] := by cases args; simp_all
  obtain ⟨rfl, rfl⟩ := trodVars_none hV
  obtain ⟨a0, rfl, rfl, rfl, w0⟩ := open_int Try.underlying3 (hval 0 3 v0 rfl rfl) h0
  obtain ⟨a1, rfl, rfl, rfl, w1⟩ := open_int Try.underlying5 (hval 1 5 v1 rfl rfl) h1
  clear hA0 hval0
  simp only [List.append_nil] at hW'
  refine (walk a0 a1 (byte_fits w1) W).mono fun e W' ⟨he, bel⟩ => ?_
  subst he
  exact ⟨_, rfl, _, _, _, [], _, [], hW', trodAll_mk1 (shut_bool Try.underlying4 _), (trodAll_cons_mk (shut_int Try.underlying3 w0) (trodAll_cons_mk (shut_int Try.underlying5 w1) trodAll_mk0)), rfl, bel.frame _, fun h => by cases h⟩
theorem over : Rows.WordTurnedSaid :=
  OpenClaim.holds_of_wide 5 Try.f5 rfl rfl rfl rfl rfl rfl rfl ⟨rfl, rfl, rfl, rfl, rfl⟩ rfl rfl rfl rfl rfl (by kernel_rfl) Try.func5 (by kernel_rfl)
    (of_decide_eq_true (by kernel_rfl)) (by unfold Func.isWrapper; first | (rw [if_pos (by decide +kernel)]; kernel_rfl) | (rw [if_neg (by decide +kernel)]; exact ⟨rfl, rfl⟩))
    (fun os started H enc _ => lifted os started H enc)
/-- THE STATEMENT. -/
theorem proved : Rows.WordTurnedSaid := over
#print axioms proved
end Go.Proofs.Ytjlimnmcaganfaa.wordTurned
