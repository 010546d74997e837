/-
  Digits, a point, digits, perhaps an exponent, are a float; with one part left out none is (promise 4.4): for every four integers (three for the digits, one for the part) the statement LitFloats returns true. The four tables (utf's three, lit's letters) are tied to the program's text by the given ties; no further condition.
-/
import Derived.Test.YtnejkdaiopjchaaDoorLitFlts
import Derived.Test.YtnejkdaiopjchaaDoorLitLaid
import Derived.Test.YtnejkdaiopjchaaDoorCards
import Derived.Test.YtnejkdaiopjchaaDoorTie
namespace Go.Proofs.YtnejkdaiopjchaaDoor.litFloats
open Go.ChangeShapes Go.WideShapes Go.ChangeAt Go.RowKit Go.PlainAid

theorem l1 (x : UInt8) : (⟨#[x]⟩ : ByteArray).data.toList = [x] := rfl
theorem l2 (x y : UInt8) : (⟨#[x, y]⟩ : ByteArray).data.toList = [x, y] := rfl
/-- A float without an exponent, with something behind. -/
theorem f_plain {s : ByteArray} {X Y T : List UInt8} (h : s.data.toList = X ++ 46 :: (Y ++ T)) (hx : Dig X) (hy : Dig Y) (hT : ∀ x ∈ T, x ≠ 101 ∧ x ≠ 69) : flt s = fmL 10 true T := by
  obtain ⟨R, hR, e⟩ := flt_app h (dig_p hx)
  rw [e, hx.whole, Bool.true_and, flr_no hR (fun x hx' => (List.mem_append.1 hx').elim (dig_e hy x) (hT x)), hy.fm T false]
/-- With one. -/
theorem f_exp {s : ByteArray} {X Y T : List UInt8} {c : UInt8} (hc : c = 101 ∨ c = 69) (h : s.data.toList = X ++ 46 :: (Y ++ c :: T)) (hx : Dig X) (hy : Dig Y) : flt s = exqL T := by
  obtain ⟨R, hR, e⟩ := flt_app h (dig_p hx)
  rw [e, hx.whole, Bool.true_and, flr_e hc hR (dig_e hy), hy.whole, Bool.true_and]
/-- What is no digits ahead of the point. -/
theorem f_bad {s : ByteArray} {A T : List UInt8} (h : s.data.toList = A ++ 46 :: T) (ha : ∀ x ∈ A, x ≠ 46) (hf : fmL 10 false A = false) : flt s = false := by
  obtain ⟨R, -, e⟩ := flt_app h ha
  rw [e, hf, Bool.false_and]
/-- Behind the point something that is no digits. -/
theorem f_bad2 {s : ByteArray} {X T : List UInt8} (h : s.data.toList = X ++ 46 :: T) (hx : Dig X) (hT : ∀ x ∈ T, x ≠ 101 ∧ x ≠ 69) (hf : fmL 10 false T = false) : flt s = false := by
  obtain ⟨R, hR, e⟩ := flt_app h (dig_p hx)
  rw [e, flr_no hR hT, hf, Bool.and_false]
theorem u_false : fmL 10 true [95] = false := by decide
/-- The four floats; with a sign ahead or a _ behind each is none. -/
def Good (S : ByteArray) : Prop := flt S = true ∧ flt (S ++ { data := #[95] }) = false ∧ flt ({ data := #[45] } ++ S) = false ∧ S.size ≤ 40
theorem good_of {s : ByteArray} {X U : List UInt8} (h : s.data.toList = X ++ 46 :: U) (hx : Dig X) (h1 : flt s = true) (h2 : flt (s ++ { data := #[95] }) = false) (hz : s.size ≤ 40) : Good s := by
  refine ⟨h1, h2, ?_, hz⟩
  refine f_bad (A := 45 :: X) (T := U) (by rw [ByteArray.toList_data_append, h, l1]; simp) (fun x hx' => ?_) rfl
  rcases List.mem_cons.1 hx' with rfl | h'
  · decide
  · exact dig_p hx x h'
theorem goods {x y z : ByteArray} (hx : DigT x) (hy : DigT y) (hz : DigT z) :
    Good (x ++ { data := #[46] } ++ y ++ { data := #[101] } ++ z) ∧ Good (x ++ { data := #[46] } ++ y) ∧ Good (x ++ { data := #[46] } ++ y ++ { data := #[69, 45] } ++ z) ∧ Good (x ++ { data := #[46] } ++ y ++ { data := #[101, 43] } ++ z) := by
  have s1 := hx.2
  have s2 := hy.2
  have s3 := hz.2
  have k1 : ({ data := #[46] } : ByteArray).size = 1 := rfl
  have k2 : ({ data := #[101] } : ByteArray).size = 1 := rfl
  have k3 : ({ data := #[69, 45] } : ByteArray).size = 2 := rfl
  have k4 : ({ data := #[101, 43] } : ByteArray).size = 2 := rfl
  refine ⟨?_, ?_, ?_, ?_⟩
  · refine good_of (X := x.data.toList) (U := y.data.toList ++ 101 :: z.data.toList) (by simp) hx.1 ?_ ?_ (by simp only [ByteArray.size_append]; omega)
    · rw [f_exp (T := z.data.toList) (.inl rfl) (by simp) hx.1 hy.1]
      have := exqL_dig (t := []) hz.1
      rw [List.append_nil] at this
      rw [this]; rfl
    · rw [f_exp (T := z.data.toList ++ [95]) (.inl rfl) (by simp) hx.1 hy.1, exqL_dig hz.1, u_false]
  · refine good_of (X := x.data.toList) (U := y.data.toList) (by simp) hx.1 ?_ ?_ (by simp only [ByteArray.size_append]; omega)
    · rw [f_plain (T := []) (by simp) hx.1 hy.1 (fun x h => by cases h)]; rfl
    · rw [f_plain (T := [95]) (by simp) hx.1 hy.1 (fun x h => by rw [List.mem_singleton.1 h]; decide), u_false]
  · refine good_of (X := x.data.toList) (U := y.data.toList ++ 69 :: 45 :: z.data.toList) (by simp) hx.1 ?_ ?_ (by simp only [ByteArray.size_append]; omega)
    · rw [f_exp (T := 45 :: (z.data.toList ++ [])) (.inr rfl) (by simp) hx.1 hy.1, exqL_sign (.inr rfl) hz.1]; rfl
    · rw [f_exp (T := 45 :: (z.data.toList ++ [95])) (.inr rfl) (by simp) hx.1 hy.1, exqL_sign (.inr rfl) hz.1, u_false]
  · refine good_of (X := x.data.toList) (U := y.data.toList ++ 101 :: 43 :: z.data.toList) (by simp) hx.1 ?_ ?_ (by simp only [ByteArray.size_append]; omega)
    · rw [f_exp (T := 43 :: (z.data.toList ++ [])) (.inl rfl) (by simp) hx.1 hy.1, exqL_sign (.inl rfl) hz.1]; rfl
    · rw [f_exp (T := 43 :: (z.data.toList ++ [95])) (.inl rfl) (by simp) hx.1 hy.1, exqL_sign (.inl rfl) hz.1, u_false]
theorem bads {x y z : ByteArray} (hx : DigT x) (hy : DigT y) (hz : DigT z) :
    flt ({ data := #[46] } ++ y) = false ∧ flt (x ++ { data := #[46] }) = false ∧ flt x = false ∧ flt (x ++ { data := #[46] } ++ y ++ { data := #[101] }) = false ∧ flt (x ++ { data := #[101] } ++ z) = false ∧
    flt (x ++ { data := #[46] } ++ y ++ { data := #[101, 45] }) = false ∧ flt (x ++ { data := #[95, 46] } ++ y) = false ∧ flt (x ++ { data := #[46, 95] } ++ y) = false ∧ flt (x ++ { data := #[46, 46] } ++ y) = false := by
  refine ⟨?_, ?_, ?_, ?_, ?_, ?_, ?_, ?_, ?_⟩
  · exact f_bad (A := []) (T := y.data.toList) (by simp) (fun x h => by cases h) rfl
  · exact f_bad2 (T := []) (by simp) hx.1 (fun x h => by cases h) rfl
  · exact flt_no (dig_p hx.1)
  · rw [f_exp (T := []) (.inl rfl) (by simp) hx.1 hy.1]; rfl
  · refine flt_no (fun c hc => ?_)
    simp only [ByteArray.toList_data_append] at hc
    rcases List.mem_append.1 hc with h | h
    · rcases List.mem_append.1 h with h | h
      · exact dig_p hx.1 c h
      · rw [List.mem_singleton.1 h]; decide
    · exact dig_p hz.1 c h
  · rw [f_exp (T := [45]) (.inl rfl) (by simp) hx.1 hy.1]; rfl
  · refine f_bad (A := x.data.toList ++ [95]) (T := y.data.toList) (by simp) (fun c hc => ?_) (by rw [hx.1.fm, u_false])
    rcases List.mem_append.1 hc with h | h
    · exact dig_p hx.1 c h
    · rw [List.mem_singleton.1 h]; decide
  · refine f_bad2 (T := 95 :: y.data.toList) (by simp) hx.1 (fun c hc => ?_) rfl
    rcases List.mem_cons.1 hc with rfl | h
    · decide
    · exact dig_e hy.1 c h
  · refine f_bad2 (T := 46 :: y.data.toList) (by simp) hx.1 (fun c hc => ?_) rfl
    rcases List.mem_cons.1 hc with rfl | h
    · decide
    · exact dig_e hy.1 c h
theorem pick4 {r : Nat} (hr : r < 4) {a b c d : ByteArray} {P : ByteArray → Prop} (ha : P a) (hb : P b) (hc : P c) (hd : P d) : ∃ v, ([Value.string a, Value.string b, Value.string c, Value.string d] : List Value)[r]'hr = .string v ∧ P v := by
  obtain rfl | rfl | rfl | rfl : r = 0 ∨ r = 1 ∨ r = 2 ∨ r = 3 := by omega
  · exact ⟨a, rfl, ha⟩
  · exact ⟨b, rfl, hb⟩
  · exact ⟨c, rfl, hc⟩
  · exact ⟨d, rfl, hd⟩
theorem pick11 {r : Nat} (hr : r < 11) {a b c d e f g h i j k : ByteArray} {P : ByteArray → Prop} (pa : P a) (pb : P b) (pc : P c) (pd : P d) (pe : P e) (pf : P f) (pg : P g) (ph : P h) (pi : P i) (pj : P j) (pk : P k) :
    ∃ v, ([Value.string a, Value.string b, Value.string c, Value.string d, Value.string e, Value.string f, Value.string g, Value.string h, Value.string i, Value.string j, Value.string k] : List Value)[r]'hr = .string v ∧ P v := by
  obtain rfl | rfl | rfl | rfl | rfl | rfl | rfl | rfl | rfl | rfl | rfl : r = 0 ∨ r = 1 ∨ r = 2 ∨ r = 3 ∨ r = 4 ∨ r = 5 ∨ r = 6 ∨ r = 7 ∨ r = 8 ∨ r = 9 ∨ r = 10 := by omega
  · exact ⟨a, rfl, pa⟩
  · exact ⟨b, rfl, pb⟩
  · exact ⟨c, rfl, pc⟩
  · exact ⟨d, rfl, pd⟩
  · exact ⟨e, rfl, pe⟩
  · exact ⟨f, rfl, pf⟩
  · exact ⟨g, rfl, pg⟩
  · exact ⟨h, rfl, ph⟩
  · exact ⟨i, rfl, pi⟩
  · exact ⟨j, rfl, pj⟩
  · exact ⟨k, rfl, pk⟩
set_option maxRecDepth 100000 in
set_option maxHeartbeats 4000000 in
theorem walk (a b c o : Int) (w : World) (ht : LTabs w) :
    Calls Tryd.prog 7 #[.int .i64 a, .int .i64 b, .int .i64 c, .int .i64 o] w fun e w' => e = .returned (.bool true) ∧ Below w.heap.size w w' := by
  have HT := Lib.hid ht
  clear ht
  have H := Lib.hid (fun W hT => told4_any W hT)
  have HA := Lib.hid (fun W => digits4_any a W)
  have HB := Lib.hid (fun W => digits4_any b W)
  have HC := Lib.hid (fun W => digits4_any c W)
  obtain ⟨r, hr, er⟩ : ∃ r : Nat, r < 4 ∧ (IntKind.u64.wrap o).tmod 4 = (r : Int) := by
    have := IntKind.wrap_u64 o
    have h0 := Int.tmod_nonneg (a := IntKind.u64.wrap o) 4 (by omega)
    have h1 := Int.tmod_lt_of_pos (IntKind.u64.wrap o) (b := 4) (by omega)
    exact ⟨((IntKind.u64.wrap o).tmod 4).toNat, by omega, by omega⟩
  obtain ⟨q, hq, eq⟩ : ∃ q : Nat, q < 11 ∧ (IntKind.u64.wrap o).tmod 11 = (q : Int) := by
    have := IntKind.wrap_u64 o
    have h0 := Int.tmod_nonneg (a := IntKind.u64.wrap o) 11 (by omega)
    have h1 := Int.tmod_lt_of_pos (IntKind.u64.wrap o) (b := 11) (by omega)
    exact ⟨((IntKind.u64.wrap o).tmod 11).toNat, by omega, by omega⟩
  go_enter Tryd.func7, Tryd.ntmps7
  go_wp2_with fail
  refine (HA.out _).mono ?_
  rintro e w' ⟨⟨x, rfl, hx⟩, rfl⟩
  go_wp2_with fail
  refine (HB.out _).mono ?_
  rintro e w' ⟨⟨y, rfl, hy⟩, rfl⟩
  go_wp2_with fail
  refine (HC.out _).mono ?_
  rintro e w' ⟨⟨z, rfl, hz⟩, rfl⟩
  obtain ⟨g0, g1, g2, g3⟩ := goods hx hy hz
  obtain ⟨v, hv, gv⟩ := pick4 hr g0 g1 g2 g3
  have sx := hx.2
  have sy := hy.2
  have sz := hz.2
  have HX := Lib.hid hx
  have HY := Lib.hid hy
  have HZ := Lib.hid hz
  have HV := Lib.hid gv
  have sv := gv.2.2.2
  obtain ⟨b0, b1, b2, b3, b4, b5, b6, b7, b8⟩ := bads hx hy hz
  have k1 : ({ data := #[46] } : ByteArray).size = 1 := rfl
  have k2 : ({ data := #[101] } : ByteArray).size = 1 := rfl
  have k3 : ({ data := #[95] } : ByteArray).size = 1 := rfl
  have k4 : ({ data := #[45] } : ByteArray).size = 1 := rfl
  have k5 : ({ data := #[101, 45] } : ByteArray).size = 2 := rfl
  have k6 : ({ data := #[95, 46] } : ByteArray).size = 2 := rfl
  have k7 : ({ data := #[46, 95] } : ByteArray).size = 2 := rfl
  have k8 : ({ data := #[46, 46] } : ByteArray).size = 2 := rfl
  obtain ⟨u, hu, gu1, gu2⟩ := pick11 hq (P := fun s => flt s = false ∧ s.size ≤ 100) ⟨b0, by simp only [ByteArray.size_append]; omega⟩ ⟨b1, by simp only [ByteArray.size_append]; omega⟩ ⟨b2, by omega⟩ ⟨b3, by simp only [ByteArray.size_append]; omega⟩ ⟨b4, by simp only [ByteArray.size_append]; omega⟩ ⟨b5, by simp only [ByteArray.size_append]; omega⟩ ⟨gv.2.2.1, by simp only [ByteArray.size_append]; omega⟩ ⟨gv.2.1, by simp only [ByteArray.size_append]; omega⟩ ⟨b6, by simp only [ByteArray.size_append]; omega⟩ ⟨b7, by simp only [ByteArray.size_append]; omega⟩ ⟨b8, by simp only [ByteArray.size_append]; omega⟩
  have F1 : Hid (∀ W, Calls Tryd.prog 17 #[.string v] W fun x w' => x = .returned (.bool true) ∧ Below W.heap.size W w') := fun W => float_is4 v true (by omega) gv.1 W
  have F2 : Hid (∀ W, Calls Tryd.prog 17 #[.string u] W fun x w' => x = .returned (.bool false) ∧ Below W.heap.size W w') := fun W => float_is4 u false (by omega) gu1 W
  have HB0 : ∀ (A B : Array Value), Hid (Below w.heap.size w ((w.alloc (.cells A 9)).alloc (.cells B 9))) := fun A B => ((Below.refl _ _).alloc (Nat.le_refl _) _).alloc (by simp) _
  have HB00 := Lib.hid HB0
  clear g0 g1 g2 g3 hx hy hz gv b0 b1 b2 b3 b4 b5 b6 b7 b8 k1 k2 k3 k4 k5 k6 k7 k8 gu1 HB0
  go_wp2_with fail
  refine (H.out _ (HT.out.below (HB00.out _ _).out)).mono ?_
  rintro e w1 ⟨rfl, hb1⟩
  have HB1 : Hid (Below w.heap.size w w1) := (HB00.out _ _).out.trans (hb1.mono (HB00.out _ _).out.size)
  clear hb1
  go_wp2_with fail
  refine (F1.out _).mono ?_
  rintro e w2 ⟨rfl, hb2⟩
  have HB2 : Hid (Below w.heap.size w w2) := HB1.out.trans (hb2.mono HB1.out.size)
  clear hb2
  go_wp2_with fail
  refine (F2.out _).mono ?_
  rintro e w3 ⟨rfl, hb3⟩
  have HB3 : Hid (Below w.heap.size w w3) := HB2.out.trans (hb3.mono HB2.out.size)
  clear hb3
  go_wp2_with fail
  go_ret
  exact ⟨rfl, HB3.out⟩
set_option maxRecDepth 100000 in
theorem lifted (os : Os) (started : os.Started) (H : Type) (enc : TypeId × Value → H) :
    ReturnsInHanded {} Tryd.checked os 7 .any (fun w args => (Rows.litFloatsSpec.pre enc Tryd.prog Tryd.f7 [] false w args ∧ laidMetH Tryd.prog litLaid w) ∧ sizedMet enc Tryd.prog Tryd.f7 (OpenSpec.ofChange Rows.litFloatsSpec) false w args)
      (Rows.litFloatsSpec.post enc Tryd.prog Tryd.f7 false true false false) := by
  refine returnsInHanded_of_change_and (C := Tryd.checked) (X := fun w _ => laidMetH Tryd.prog litLaid w) (fun _ _ _ hh h => h.of_heap hh) own4 started (by kernel_rfl) Tryd.func7
    (ChangeSpec.witness_shaped (enc := enc) (C := Tryd.checked) (os := os) (X := fun w _ => laidMetH Tryd.prog litLaid w) false (World.doorLaid Tryd.prog 400 os) #[.int .i64 0, .int .i64 0, .int .i64 0, .int .i64 0] 8 rfl (World.shaped_of_RefB (by kernel_rfl) (by kernel_rfl)) (by kernel_rfl) (by kernel_rfl) (by kernel_rfl) (door_met4 os _)) ?_
  intro W base args ds gs before hval0 hW _ _ hL _
  have hval : ∀ (j : Nat) t v, Tryd.f7.params[j]? = some t → args[j]? = some v → Value.okWide Tryd.prog W .any base t v := hval0
  have hW' := hW
  obtain ⟨p, q, hA0, hV, rfl, hfz, hnd⟩ := hW
  have hA : DataW.TrodAll enc Tryd.prog W 0 (fun _ => true) true Tryd.f7.params.toList args.toList ds p := hA0
  rw [Tryd.params7] at hA hval
  obtain ⟨v0, vs0, d0, ds0, p0, q0, hargs, rfl, rfl, h0, r0⟩ := trodAll_cons hA
  obtain ⟨v1, vs1, d1, ds1, p1, q1, rfl, rfl, rfl, h1, r1⟩ := trodAll_cons r0
  obtain ⟨v2, vs2, d2, ds2, p2, q2, rfl, rfl, rfl, h2, r2⟩ := trodAll_cons r1
  obtain ⟨v3, vs3, d3, ds3, p3, q3, rfl, rfl, rfl, h3, r3⟩ := trodAll_cons r2
  obtain ⟨rfl, rfl, rfl⟩ := trodAll_nil r3
  obtain rfl : args = #[v0, v1, v2, v3] := by cases args; simp_all
  obtain ⟨rfl, rfl⟩ := trodVars_none hV
  obtain ⟨a0, rfl, rfl, rfl, w0⟩ := open_int Tryd.underlying3 (hval 0 3 v0 rfl rfl) h0
  obtain ⟨a1, rfl, rfl, rfl, w1⟩ := open_int Tryd.underlying3 (hval 1 3 v1 rfl rfl) h1
  obtain ⟨a2, rfl, rfl, rfl, w2⟩ := open_int Tryd.underlying3 (hval 2 3 v2 rfl rfl) h2
  obtain ⟨a3, rfl, rfl, rfl, w3⟩ := open_int Tryd.underlying3 (hval 3 3 v3 rfl rfl) h3
  clear hA0 hval0
  simp only [List.append_nil] at hW'
  refine (walk a0 a1 a2 a3 W (ltabs_of_laid hL)).mono fun e W' ⟨he, bel⟩ => ?_
  subst he
  exact ⟨_, rfl, _, _, _, [], _, [], hW', trodAll_mk1 (shut_bool Tryd.underlying4 _), (trodAll_cons_mk (shut_int Tryd.underlying3 w0) (trodAll_cons_mk (shut_int Tryd.underlying3 w1) (trodAll_cons_mk (shut_int Tryd.underlying3 w2) (trodAll_cons_mk (shut_int Tryd.underlying3 w3) trodAll_mk0)))), rfl, bel.frame _, fun h => by cases h⟩
theorem over : Rows.LitFloatsSaid :=
  OpenClaim.holds_of_wide 7 Tryd.f7 rfl rfl rfl rfl rfl rfl rfl ⟨rfl, rfl, rfl, rfl, rfl⟩ rfl rfl rfl rfl rfl (by kernel_rfl) Tryd.func7 (by kernel_rfl)
    (of_decide_eq_true (by kernel_rfl)) (by unfold Func.isWrapper; first | (rw [if_pos (by decide +kernel)]; kernel_rfl) | (rw [if_neg (by decide +kernel)]; exact ⟨rfl, rfl⟩))
    (fun os started H enc _ => lifted os started H enc)
/-- THE TIED CARD. -/
theorem proved : Rows.LitFloatsCardSaid :=
  Claim7.holds_tied_plain_at .later [] [.data, .data, .data, .data] true Rows.litFloatsCard.stood.harness false
    over (fun _ h => by cases h) (by kernel_rfl) (fun _ h => by cases h) litFloats_row_tie rfl ⟨rfl, rfl⟩ (by kernel_rfl) rfl
    (fun f fn hf hfn => by
      obtain rfl : f = 7 := Option.some.inj ((show Tryd.prog.funcNamed "galley/galleylaw4.LitFloats" = some 7 by kernel_rfl).symm.trans hf) |>.symm
      obtain rfl : fn = Tryd.f7 := (Option.some.inj (Tryd.func7.symm.trans hfn)).symm
      exact ⟨by kernel_rfl, fun j t ht => by
        rw [Tryd.params7] at ht
        have hm : t ∈ [3] := by
          have := Array.mem_of_getElem? ht
          simpa using this
        have hall : ([3].all fun u => !Tryd.prog.wantsStandIn u) = true := by kernel_rfl
        exact (show Tryd.prog.wantsStandIn t = false by simpa using List.all_eq_true.1 hall t hm)⟩)
    (by kernel_rfl)
#print axioms proved
end Go.Proofs.YtnejkdaiopjchaaDoor.litFloats
