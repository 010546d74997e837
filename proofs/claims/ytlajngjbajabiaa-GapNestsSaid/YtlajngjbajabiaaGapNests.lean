/-
  So many brackets in one another are so deep; beside one another they are one deep (promise 7.1): for every two integers the statement GapNests returns true. No condition.
-/
import Derived.Test.YtlajngjbajabiaaBase
import Derived.Test.YtlajngjbajabiaaGapTold
import Derived.Test.YtlajngjbajabiaaGapNestMath
namespace Go.Proofs.Ytlajngjbajabiaa.gapNests
open Go.ChangeShapes Go.WideShapes Go.ChangeAt Go.RowKit Go.PlainAid

theorem op_val (r : Nat) (hr : r < 9) : ([Value.string { data := #[40] }, Value.string { data := #[123] }, Value.string { data := #[91] }, Value.string { data := #[60, 60] }, Value.string { data := #[98, 101, 103, 105, 110, 32] }, Value.string { data := #[99, 97, 115, 101, 32] }, Value.string { data := #[105, 102, 32] }, Value.string { data := #[114, 101, 99, 101, 105, 118, 101, 32] }, Value.string { data := #[102, 117, 110, 40] }][r]'(by simpa using hr)) = .string (opb r) := by
  show (opl.map fun l => Value.string ⟨l.toArray⟩)[r]'(by simpa [opl] using hr) = _
  rw [List.getElem_map]
  unfold opb
  rw [List.getD_eq_getElem?_getD, List.getElem?_eq_getElem (show r < opl.length from hr)]
  rfl
theorem sh_val (r : Nat) (hr : r < 9) : ([Value.string { data := #[41] }, Value.string { data := #[125] }, Value.string { data := #[93] }, Value.string { data := #[62, 62] }, Value.string { data := #[32, 101, 110, 100] }, Value.string { data := #[32, 101, 110, 100] }, Value.string { data := #[32, 101, 110, 100] }, Value.string { data := #[32, 101, 110, 100] }, Value.string { data := #[41, 32, 101, 110, 100] }][r]'(by simpa using hr)) = .string (shb r) := by
  show (shl.map fun l => Value.string ⟨l.toArray⟩)[r]'(by simpa [shl] using hr) = _
  rw [List.getElem_map]
  unfold shb
  rw [List.getD_eq_getElem?_getD, List.getElem?_eq_getElem (show r < shl.length from hr)]
  rfl
theorem fun_is : ∀ r : Fin 9, ((opb r.val).toList == [102, 117, 110, 40]) = decide (r.val = 8) := by decide +kernel
theorem app4 (T O X C B : ByteArray) : T ++ O ++ X ++ C ++ B = T ++ (O ++ X ++ C ++ B) := by simp only [ByteArray.append_assoc]
/-- What the depths are, as numbers. -/
theorem want_is (r k : Nat) : dw r * (k : Int) = if r = 8 then 2 * (k : Int) else (k : Int) := by
  unfold dw; split <;> omega
theorem flat_is (r k : Nat) : (if k = 0 then (0 : Int) else max 0 (dw r)) = if k = 0 then 0 else if r = 8 then 2 else 1 := by
  unfold dw
  by_cases h : k = 0
  · rw [if_pos h, if_pos h]
  · rw [if_neg h, if_neg h]
    split <;> rfl
set_option maxRecDepth 100000 in
set_option maxHeartbeats 4000000 in
theorem walk (x y : Int) (w : World) :
    Calls Try.prog 5 #[.int .i64 x, .int .i64 y] w fun e w' => e = .returned (.bool true) ∧ Below w.heap.size w w' := by
  obtain ⟨k, hk, ek⟩ : ∃ r : Nat, r < 151 ∧ (IntKind.u64.wrap x).tmod 151 = (r : Int) := by
    have := IntKind.wrap_u64 x
    have h0 := Int.tmod_nonneg (a := IntKind.u64.wrap x) 151 (by omega)
    have h1 := Int.tmod_lt_of_pos (IntKind.u64.wrap x) (b := 151) (by omega)
    have h2 := Int.toNat_of_nonneg h0
    exact ⟨((IntKind.u64.wrap x).tmod 151).toNat, by omega, h2.symm⟩
  obtain ⟨r, hr, er⟩ : ∃ r : Nat, r < 9 ∧ (IntKind.u64.wrap y).tmod 9 = (r : Int) := by
    have := IntKind.wrap_u64 y
    have h0 := Int.tmod_nonneg (a := IntKind.u64.wrap y) 9 (by omega)
    have h1 := Int.tmod_lt_of_pos (IntKind.u64.wrap y) (b := 9) (by omega)
    have h2 := Int.toNat_of_nonneg h0
    exact ⟨((IntKind.u64.wrap y).tmod 9).toNat, by omega, h2.symm⟩
  have HV := op_val r hr
  have HU := sh_val r hr
  obtain ⟨zo, zc⟩ := opb_size ⟨r, hr⟩
  have hfun := fun_is ⟨r, hr⟩
  simp only at zo zc hfun
  have z1 : (nst1 r k).size ≤ 2500 := by
    unfold nst1
    rw [ByteArray.size_append, ByteArray.size_append, repL_size, repL_size]
    have h1 : k * (opb r).size ≤ 150 * 8 := Nat.mul_le_mul (by omega) zo
    have h2 : k * (shb r).size ≤ 150 * 5 := Nat.mul_le_mul (by omega) zc
    have h3 : ({ data := #[120] } : ByteArray).size = 1 := rfl
    omega
  have zb : (blk r).size ≤ 15 := by
    unfold blk
    rw [ByteArray.size_append, ByteArray.size_append, ByteArray.size_append]
    have h3 : ({ data := #[120] } : ByteArray).size = 1 := rfl
    have h4 : ({ data := #[32] } : ByteArray).size = 1 := rfl
    omega
  have z2 : (repL (blk r) k).size ≤ 2500 := by
    rw [repL_size]
    have h1 : k * (blk r).size ≤ 150 * 15 := Nat.mul_le_mul (by omega) zb
    omega
  obtain ⟨L1, s1, d1, l1⟩ := tx_scan (nst1_tx r k hr) (by omega)
  obtain ⟨L2, s2, d2, l2⟩ := tx_scan (blk_rep r hr k) (by omega)
  rw [nst1_dl r k hr, want_is] at d1
  rw [blk_rep_dl r hr k 0 (by omega), flat_is] at d2
  have HSC1 := Lib.hid (fun W => rscan_is (nst1 r k) L1 0 s1 (by omega) W)
  have HSC2 := Lib.hid (fun W => rscan_is (repL (blk r) k) L2 0 s2 (by omega) W)
  have HD1 := Lib.hid (fun v W h => deep_any v (toks (nst1 r k) L1) (by rw [toks_len]; omega) W h)
  have HD2 := Lib.hid (fun v W h => deep_any v (toks (repL (blk r) k) L2) (by rw [toks_len]; omega) W h)
  rw [d1] at HD1
  rw [d2] at HD2
  obtain ⟨X1, hX1⟩ : ∃ X1, X1 = nst1 r k := ⟨_, rfl⟩
  obtain ⟨X2, hX2⟩ : ∃ X2, X2 = repL (blk r) k := ⟨_, rfl⟩
  rw [← hX1] at HSC1 HD1
  rw [← hX2] at HSC2 HD2
  unfold nst1 at hX1
  have HB : Hid (blk r = opb r ++ { data := #[120] } ++ shb r ++ { data := #[32] }) := Lib.hid rfl
  obtain ⟨O, hO⟩ : ∃ O, O = opb r := ⟨_, rfl⟩
  obtain ⟨C, hC⟩ : ∃ C, C = shb r := ⟨_, rfl⟩
  rw [← hO] at HV zo hX1 hfun HB
  rw [← hC] at HU zc hX1 HB
  obtain ⟨B, hB⟩ : ∃ B, B = blk r := ⟨_, rfl⟩
  rw [← hB] at zb hX2 HB
  have HX1 := Lib.hid hX1
  have HX2 := Lib.hid hX2
  clear s1 s2 d1 d2 l1 l2 z1 z2 hX1 hX2 hO hC hB
  go_enter Try.func5, Try.ntmps5
  go_wp2_with fail
  go_loopg [8, 9, 10] k (fun gn s t i wr => ∃ (j : Nat) (S T : ByteArray), gn = k - j ∧ j ≤ k ∧ i = .int .i64 (j : Int) ∧ s = .string S ∧ t = .string T ∧ S.size ≤ 8 * j ∧ T.size ≤ 15 * j ∧ Hid (S = repL O j) ∧ Hid (T = repL B j) ∧ Hid (Below w.heap.size w wr))
  case atStart => exact ⟨0, _, _, rfl, Nat.zero_le _, rfl, rfl, rfl, by decide, by decide, Lib.hid rfl, Lib.hid rfl, Lib.hid (below2 _ _ _)⟩
  case round =>
    obtain ⟨j, S, T, hgn, hj, rfl, rfl, rfl, hS, hT, HS, HT, HW⟩ := hrel
    by_cases hlt : j < k
    · have kn : (j : Int) < (k : Int) := by omega
      have HS2 : Hid (S ++ O = repL O (j + 1)) := Lib.hid (by rw [HS.out]; rfl)
      have HT2 : Hid (T ++ O ++ { data := #[120] } ++ C ++ { data := #[32] } = repL B (j + 1)) := Lib.hid (by rw [HT.out, app4, ← HB.out]; rfl)
      have hX : ({ data := #[120] } : ByteArray).size = 1 := rfl
      have hY : ({ data := #[32] } : ByteArray).size = 1 := rfl
      have zS : (S ++ O).size ≤ 8 * (j + 1) := by rw [ByteArray.size_append]; omega
      have zT : (T ++ O ++ { data := #[120] } ++ C ++ { data := #[32] }).size ≤ 15 * (j + 1) := by
        rw [ByteArray.size_append, ByteArray.size_append, ByteArray.size_append, ByteArray.size_append]; omega
      clear hX hY
      go_wp2_with fail
      go_roundg (k - (j + 1))
      case measure => omega
      case rel => exact ⟨j + 1, S ++ O, _, rfl, hlt, by go_num, rfl, rfl, zS, zT, HS2, HT2, HW⟩
    · obtain rfl : j = k := by omega
      have HT3 : Hid (T = X2) := Lib.hid (by rw [HT.out, HX2.out])
      obtain rfl := HT3.out
      clear HT3
      have hX : ({ data := #[120] } : ByteArray).size = 1 := rfl
      have zS : (S ++ { data := #[120] }).size ≤ 1300 := by rw [ByteArray.size_append]; omega
      clear hX
      go_wp2_with fail
      go_loopg [8, 11] j (fun gn s i wr => ∃ (m : Nat) (S2 : ByteArray), gn = j - m ∧ m ≤ j ∧ i = .int .i64 (m : Int) ∧ s = .string S2 ∧ S2.size ≤ 1300 + 5 * m ∧ Hid (S2 = S ++ { data := #[120] } ++ repL C m) ∧ Hid (Below w.heap.size w wr))
      case atStart => exact ⟨0, _, rfl, Nat.zero_le _, rfl, rfl, by omega, Lib.hid (app_emp _).symm, HW⟩
      case round =>
        obtain ⟨m, S2, hgn2, hm, rfl, rfl, hS2, HSS, HW2⟩ := hrel
        by_cases hlt2 : m < j
        · have mn : (m : Int) < (j : Int) := by omega
          have HS3 : Hid (S2 ++ C = S ++ { data := #[120] } ++ repL C (m + 1)) := Lib.hid (by rw [HSS.out, ByteArray.append_assoc]; rfl)
          have zS3 : (S2 ++ C).size ≤ 1300 + 5 * (m + 1) := by rw [ByteArray.size_append]; omega
          go_wp2_with fail
          go_roundg (j - (m + 1))
          case measure => omega
          case rel => exact ⟨m + 1, S2 ++ C, rfl, hlt2, by go_num, rfl, zS3, HS3, HW2⟩
        · obtain rfl : m = j := by omega
          have HE : Hid (S2 = X1) := Lib.hid (by rw [HSS.out, HX1.out, HS.out])
          obtain rfl := HE.out
          clear HE HSS HS HT HX1 HX2 HB HV HU zo zc zb zS hS2 hS hT
          by_cases h8 : r = 8
          · rw [if_pos h8] at HD1 HD2
            rw [decide_eq_true h8] at hfun
            by_cases h0 : m = 0
            · rw [if_pos h0] at HD2
              have k0 : (m : Int) < 1 := by omega
              have km : 2 * (m : Int) = 0 := by omega
              go_wp2_with fail
              refine (HSC1.out _).mono ?_
              rintro e w1 ⟨v1, rfl, ha1, hb1⟩
              have A1 := Lib.hid (trow_of ha1)
              have B1 : Hid (Below w.heap.size w w1) := Lib.hid (HW2.out.trans (hb1.mono HW2.out.size))
              clear hb1 ha1
              go_wp2_with fail
              refine (HSC2.out _).mono ?_
              rintro e w2 ⟨v2, rfl, ha2, hb2⟩
              have A2 := Lib.hid (trow_of ha2)
              have A12 := Lib.hid (A1.out.below hb2)
              have B2 : Hid (Below w.heap.size w w2) := Lib.hid (B1.out.trans (hb2.mono B1.out.size))
              clear hb2 ha2 A1
              go_wp2_with fail
              refine (told7_any _).mono ?_
              rintro e w3 ⟨rfl, hb3⟩
              have A13 := Lib.hid (A12.out.below hb3)
              have A23 := Lib.hid (A2.out.below hb3)
              have B3 : Hid (Below w.heap.size w w3) := Lib.hid (B2.out.trans (hb3.mono B2.out.size))
              clear hb3 A12 A2
              go_wp2_with fail
              refine (HD1.out _ _ A13.out).mono ?_
              rintro e w4 ⟨rfl, hb4⟩
              have A24 := Lib.hid (A23.out.below hb4)
              have B4 : Hid (Below w.heap.size w w4) := Lib.hid (B3.out.trans (hb4.mono B3.out.size))
              clear hb4 A23
              go_wp2_with fail
              refine (HD2.out _ _ A24.out).mono ?_
              rintro e w5 ⟨rfl, hb5⟩
              have B5 : Hid (Below w.heap.size w w5) := Lib.hid (B4.out.trans (hb5.mono B4.out.size))
              clear hb5
              go_wp2_with fail
              go_ret
              exact ⟨rfl, B5.out⟩
            · rw [if_neg h0] at HD2
              by_cases h1 : m = 1
              · have k0 : (m : Int) ≤ 1 := by omega
                have k1 : ((m : Int) == 1) = true := by rw [h1]; rfl
                have k2 : ((1 : Int) == (m : Int)) = true := by rw [h1]; rfl
                have k3 : 2 * (m : Int) = 2 := by omega
                go_wp2_with fail
                refine (HSC1.out _).mono ?_
                rintro e w1 ⟨v1, rfl, ha1, hb1⟩
                have A1 := Lib.hid (trow_of ha1)
                have B1 : Hid (Below w.heap.size w w1) := Lib.hid (HW2.out.trans (hb1.mono HW2.out.size))
                clear hb1 ha1
                go_wp2_with fail
                refine (HSC2.out _).mono ?_
                rintro e w2 ⟨v2, rfl, ha2, hb2⟩
                have A2 := Lib.hid (trow_of ha2)
                have A12 := Lib.hid (A1.out.below hb2)
                have B2 : Hid (Below w.heap.size w w2) := Lib.hid (B1.out.trans (hb2.mono B1.out.size))
                clear hb2 ha2 A1
                go_wp2_with fail
                refine (told7_any _).mono ?_
                rintro e w3 ⟨rfl, hb3⟩
                have A13 := Lib.hid (A12.out.below hb3)
                have A23 := Lib.hid (A2.out.below hb3)
                have B3 : Hid (Below w.heap.size w w3) := Lib.hid (B2.out.trans (hb3.mono B2.out.size))
                clear hb3 A12 A2
                go_wp2_with fail
                refine (HD1.out _ _ A13.out).mono ?_
                rintro e w4 ⟨rfl, hb4⟩
                have A24 := Lib.hid (A23.out.below hb4)
                have B4 : Hid (Below w.heap.size w w4) := Lib.hid (B3.out.trans (hb4.mono B3.out.size))
                clear hb4 A23
                go_wp2_with fail
                refine (HD2.out _ _ A24.out).mono ?_
                rintro e w5 ⟨rfl, hb5⟩
                have B5 : Hid (Below w.heap.size w w5) := Lib.hid (B4.out.trans (hb5.mono B4.out.size))
                clear hb5
                go_wp2_with fail
                go_ret
                exact ⟨rfl, B5.out⟩
              · have k0 : 1 < (m : Int) := by omega
                go_wp2_with fail
                refine (HSC1.out _).mono ?_
                rintro e w1 ⟨v1, rfl, ha1, hb1⟩
                have A1 := Lib.hid (trow_of ha1)
                have B1 : Hid (Below w.heap.size w w1) := Lib.hid (HW2.out.trans (hb1.mono HW2.out.size))
                clear hb1 ha1
                go_wp2_with fail
                refine (HSC2.out _).mono ?_
                rintro e w2 ⟨v2, rfl, ha2, hb2⟩
                have A2 := Lib.hid (trow_of ha2)
                have A12 := Lib.hid (A1.out.below hb2)
                have B2 : Hid (Below w.heap.size w w2) := Lib.hid (B1.out.trans (hb2.mono B1.out.size))
                clear hb2 ha2 A1
                go_wp2_with fail
                refine (told7_any _).mono ?_
                rintro e w3 ⟨rfl, hb3⟩
                have A13 := Lib.hid (A12.out.below hb3)
                have A23 := Lib.hid (A2.out.below hb3)
                have B3 : Hid (Below w.heap.size w w3) := Lib.hid (B2.out.trans (hb3.mono B2.out.size))
                clear hb3 A12 A2
                go_wp2_with fail
                refine (HD1.out _ _ A13.out).mono ?_
                rintro e w4 ⟨rfl, hb4⟩
                have A24 := Lib.hid (A23.out.below hb4)
                have B4 : Hid (Below w.heap.size w w4) := Lib.hid (B3.out.trans (hb4.mono B3.out.size))
                clear hb4 A23
                go_wp2_with fail
                refine (HD2.out _ _ A24.out).mono ?_
                rintro e w5 ⟨rfl, hb5⟩
                have B5 : Hid (Below w.heap.size w w5) := Lib.hid (B4.out.trans (hb5.mono B4.out.size))
                clear hb5
                go_wp2_with fail
                go_ret
                exact ⟨rfl, B5.out⟩
          · rw [if_neg h8] at HD1 HD2
            rw [decide_eq_false h8] at hfun
            by_cases h0 : m = 0
            · rw [if_pos h0] at HD2
              have k0 : (m : Int) < 1 := by omega
              go_wp2_with fail
              refine (HSC1.out _).mono ?_
              rintro e w1 ⟨v1, rfl, ha1, hb1⟩
              have A1 := Lib.hid (trow_of ha1)
              have B1 : Hid (Below w.heap.size w w1) := Lib.hid (HW2.out.trans (hb1.mono HW2.out.size))
              clear hb1 ha1
              go_wp2_with fail
              refine (HSC2.out _).mono ?_
              rintro e w2 ⟨v2, rfl, ha2, hb2⟩
              have A2 := Lib.hid (trow_of ha2)
              have A12 := Lib.hid (A1.out.below hb2)
              have B2 : Hid (Below w.heap.size w w2) := Lib.hid (B1.out.trans (hb2.mono B1.out.size))
              clear hb2 ha2 A1
              go_wp2_with fail
              refine (told7_any _).mono ?_
              rintro e w3 ⟨rfl, hb3⟩
              have A13 := Lib.hid (A12.out.below hb3)
              have A23 := Lib.hid (A2.out.below hb3)
              have B3 : Hid (Below w.heap.size w w3) := Lib.hid (B2.out.trans (hb3.mono B2.out.size))
              clear hb3 A12 A2
              go_wp2_with fail
              refine (HD1.out _ _ A13.out).mono ?_
              rintro e w4 ⟨rfl, hb4⟩
              have A24 := Lib.hid (A23.out.below hb4)
              have B4 : Hid (Below w.heap.size w w4) := Lib.hid (B3.out.trans (hb4.mono B3.out.size))
              clear hb4 A23
              go_wp2_with fail
              refine (HD2.out _ _ A24.out).mono ?_
              rintro e w5 ⟨rfl, hb5⟩
              have B5 : Hid (Below w.heap.size w w5) := Lib.hid (B4.out.trans (hb5.mono B4.out.size))
              clear hb5
              go_wp2_with fail
              go_ret
              exact ⟨rfl, B5.out⟩
            · rw [if_neg h0] at HD2
              by_cases h1 : m = 1
              · have k0 : (m : Int) ≤ 1 := by omega
                have k1 : ((m : Int) == 1) = true := by rw [h1]; rfl
                have k2 : ((1 : Int) == (m : Int)) = true := by rw [h1]; rfl
                have k3 : 2 * (m : Int) = 2 := by omega
                go_wp2_with fail
                refine (HSC1.out _).mono ?_
                rintro e w1 ⟨v1, rfl, ha1, hb1⟩
                have A1 := Lib.hid (trow_of ha1)
                have B1 : Hid (Below w.heap.size w w1) := Lib.hid (HW2.out.trans (hb1.mono HW2.out.size))
                clear hb1 ha1
                go_wp2_with fail
                refine (HSC2.out _).mono ?_
                rintro e w2 ⟨v2, rfl, ha2, hb2⟩
                have A2 := Lib.hid (trow_of ha2)
                have A12 := Lib.hid (A1.out.below hb2)
                have B2 : Hid (Below w.heap.size w w2) := Lib.hid (B1.out.trans (hb2.mono B1.out.size))
                clear hb2 ha2 A1
                go_wp2_with fail
                refine (told7_any _).mono ?_
                rintro e w3 ⟨rfl, hb3⟩
                have A13 := Lib.hid (A12.out.below hb3)
                have A23 := Lib.hid (A2.out.below hb3)
                have B3 : Hid (Below w.heap.size w w3) := Lib.hid (B2.out.trans (hb3.mono B2.out.size))
                clear hb3 A12 A2
                go_wp2_with fail
                refine (HD1.out _ _ A13.out).mono ?_
                rintro e w4 ⟨rfl, hb4⟩
                have A24 := Lib.hid (A23.out.below hb4)
                have B4 : Hid (Below w.heap.size w w4) := Lib.hid (B3.out.trans (hb4.mono B3.out.size))
                clear hb4 A23
                go_wp2_with fail
                refine (HD2.out _ _ A24.out).mono ?_
                rintro e w5 ⟨rfl, hb5⟩
                have B5 : Hid (Below w.heap.size w w5) := Lib.hid (B4.out.trans (hb5.mono B4.out.size))
                clear hb5
                go_wp2_with fail
                go_ret
                exact ⟨rfl, B5.out⟩
              · have k0 : 1 < (m : Int) := by omega
                go_wp2_with fail
                refine (HSC1.out _).mono ?_
                rintro e w1 ⟨v1, rfl, ha1, hb1⟩
                have A1 := Lib.hid (trow_of ha1)
                have B1 : Hid (Below w.heap.size w w1) := Lib.hid (HW2.out.trans (hb1.mono HW2.out.size))
                clear hb1 ha1
                go_wp2_with fail
                refine (HSC2.out _).mono ?_
                rintro e w2 ⟨v2, rfl, ha2, hb2⟩
                have A2 := Lib.hid (trow_of ha2)
                have A12 := Lib.hid (A1.out.below hb2)
                have B2 : Hid (Below w.heap.size w w2) := Lib.hid (B1.out.trans (hb2.mono B1.out.size))
                clear hb2 ha2 A1
                go_wp2_with fail
                refine (told7_any _).mono ?_
                rintro e w3 ⟨rfl, hb3⟩
                have A13 := Lib.hid (A12.out.below hb3)
                have A23 := Lib.hid (A2.out.below hb3)
                have B3 : Hid (Below w.heap.size w w3) := Lib.hid (B2.out.trans (hb3.mono B2.out.size))
                clear hb3 A12 A2
                go_wp2_with fail
                refine (HD1.out _ _ A13.out).mono ?_
                rintro e w4 ⟨rfl, hb4⟩
                have A24 := Lib.hid (A23.out.below hb4)
                have B4 : Hid (Below w.heap.size w w4) := Lib.hid (B3.out.trans (hb4.mono B3.out.size))
                clear hb4 A23
                go_wp2_with fail
                refine (HD2.out _ _ A24.out).mono ?_
                rintro e w5 ⟨rfl, hb5⟩
                have B5 : Hid (Below w.heap.size w w5) := Lib.hid (B4.out.trans (hb5.mono B4.out.size))
                clear hb5
                go_wp2_with fail
                go_ret
                exact ⟨rfl, B5.out⟩
set_option maxRecDepth 100000 in
theorem lifted (os : Os) (started : os.Started) (H : Type) (enc : TypeId × Value → H) :
    ReturnsInHanded {} Try.checked os 5 .any (Rows.gapNestsSpec.pre6 enc Try.prog Try.f5 Rows.gapNestsRow.domain false) (Rows.gapNestsSpec.post enc Try.prog Try.f5 false true false false) := by
  refine returnsInHanded_of_change (C := Try.checked) ownKnobNone started (by kernel_rfl) Try.func5
    (ChangeSpec.witness6 (enc := enc) (C := Try.checked) false ⟨#[], #[.int .i64 0, .int .i64 0], []⟩ 8 (by kernel_rfl) (by kernel_rfl) (by kernel_rfl) (by kernel_rfl)) ?_
  intro W base args ds gs before hval0 hW hcnd _
  have hval : ∀ (j : Nat) t v, Try.f5.params[j]? = some t → args[j]? = some v → Value.okWide Try.prog W .any base t v := hval0
  have hW' := hW
  obtain ⟨p, q, hA0, hV, rfl, hfz, hnd⟩ := hW
  have hA : DataW.TrodAll enc Try.prog W 0 (fun _ => true) true Try.f5.params.toList args.toList ds p := hA0
  rw [Try.params5] at hA hval
  obtain ⟨v0, vs0, d0, ds0, p0, q0, hargs, rfl, rfl, h0, r0⟩ := trodAll_cons hA
  obtain ⟨v1, vs1, d1, ds1, p1, q1, rfl, rfl, rfl, h1, r1⟩ := trodAll_cons r0
  obtain ⟨rfl, rfl, rfl⟩ := trodAll_nil r1
  obtain rfl : args = #[v0, v1] := by cases args; simp_all
  obtain ⟨rfl, rfl⟩ := trodVars_none hV
  obtain ⟨a0, rfl, rfl, rfl, w0⟩ := open_int Try.underlying3 (hval 0 3 v0 rfl rfl) h0
  obtain ⟨a1, rfl, rfl, rfl, w1⟩ := open_int Try.underlying3 (hval 1 3 v1 rfl rfl) h1
  clear hA0 hval0
  simp only [List.append_nil] at hW'
  refine (walk a0 a1 W).mono fun e W' ⟨he, bel⟩ => ?_
  subst he
  exact ⟨_, rfl, _, _, _, [], _, [], hW', trodAll_mk1 (shut_bool Try.underlying4 _), (trodAll_cons_mk (shut_int Try.underlying3 w0) (trodAll_cons_mk (shut_int Try.underlying3 w1) trodAll_mk0)), rfl, bel.frame _, fun h => by cases h⟩
theorem over : Rows.GapNestsSaid :=
  OpenClaim.holds_of_wide 5 Try.f5 rfl rfl rfl rfl rfl rfl rfl ⟨rfl, rfl, rfl, rfl, rfl⟩ rfl rfl rfl rfl rfl (by kernel_rfl) Try.func5 (by kernel_rfl)
    (of_decide_eq_true (by kernel_rfl)) (by unfold Func.isWrapper; first | (rw [if_pos (by decide +kernel)]; kernel_rfl) | (rw [if_neg (by decide +kernel)]; exact ⟨rfl, rfl⟩))
    (fun os started H enc _ => lifted os started H enc)
/-- THE STATEMENT. -/
theorem proved : Rows.GapNestsSaid := over
#print axioms proved
end Go.Proofs.Ytlajngjbajabiaa.gapNests
