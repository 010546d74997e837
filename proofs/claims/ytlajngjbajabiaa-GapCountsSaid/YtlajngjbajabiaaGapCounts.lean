/-
  So many newlines between two tokens: none, one, more (promise 7.1): for every two integers the statement GapCounts returns true. No condition.
-/
import Derived.Test.YtlajngjbajabiaaBase
import Derived.Test.YtlajngjbajabiaaGapTold
import Derived.Laws.BitsAllLaws
namespace Go.Proofs.Ytlajngjbajabiaa.gapCounts
open Go.ChangeShapes Go.WideShapes Go.ChangeAt Go.RowKit Go.PlainAid

def pcs : List (List UInt8) := [[10], [32, 10], [9, 10], [13, 10]]
def pc (q : Nat) : ByteArray := ⟨(pcs.getD q []).toArray⟩
def gct (q : Nat) : Nat → ByteArray
  | 0 => { data := #[97] }
  | k + 1 => gct q k ++ pc ((q + k) % 4)
def gcs (q k : Nat) : ByteArray := gct q k ++ { data := #[32, 98] }
def gcl (q k : Nat) : List Tk3 := [(1, 0, 1), (1, (gct q k).size + 1, (gct q k).size + 2)]
theorem gc_all : ∀ q : Fin 4, ∀ k : Fin 11, scanF (gcs q.val k.val) = (gcl q.val k.val, 0) ∧ nls (gcs q.val k.val) (gcl q.val k.val) 1 = k.val ∧ (gct q.val k.val).size ≤ 21 := by decide +kernel
theorem pc_size : ∀ q : Fin 4, (pc q.val).size ≤ 2 := by decide
theorem gct_size (q : Nat) : ∀ k, (gct q k).size ≤ 2 * k + 1
  | 0 => by show 1 ≤ 1; omega
  | k + 1 => by
    have h1 := gct_size q k
    have h2 := pc_size ⟨(q + k) % 4, by omega⟩
    simp only at h2
    simp only [gct, ByteArray.size_append]
    omega
theorem and3 (x : Int) : bits .and .i64 x 3 = x % 4 := by
  show IntKind.i64.wrap ((BitVec.ofInt 64 x &&& BitVec.ofInt 64 3).toNat : Int) = _
  rw [BitVec.toNat_and, BitVec.toNat_ofInt, BitVec.toNat_ofInt, show ((3 : Int) % ((2 ^ 64 : Nat) : Int)).toNat = 3 by decide, nat_mask2, IntKind.wrap_i64]
  omega
theorem pc_val (r : Nat) (hr : r < 4) : ([Value.string { data := #[10] }, Value.string { data := #[32, 10] }, Value.string { data := #[9, 10] }, Value.string { data := #[13, 10] }][r]'(by simpa using hr)) = .string (pc r) := by
  show (pcs.map fun l => Value.string ⟨l.toArray⟩)[r]'(by simpa [pcs] using hr) = _
  rw [List.getElem_map]
  unfold pc
  rw [List.getD_eq_getElem?_getD, List.getElem?_eq_getElem (show r < pcs.length from hr)]
  rfl
set_option maxRecDepth 100000 in
set_option maxHeartbeats 4000000 in
theorem walk (x y : Int) (w : World) :
    Calls Try.prog 6 #[.int .i64 x, .int .i64 y] w fun e w' => e = .returned (.bool true) ∧ Below w.heap.size w w' := by
  obtain ⟨r, hr, er⟩ : ∃ r : Nat, r < 11 ∧ (IntKind.u64.wrap x).tmod 11 = (r : Int) := by
    have := IntKind.wrap_u64 x
    have h0 := Int.tmod_nonneg (a := IntKind.u64.wrap x) 11 (by omega)
    have h1 := Int.tmod_lt_of_pos (IntKind.u64.wrap x) (b := 11) (by omega)
    have h2 := Int.toNat_of_nonneg h0
    exact ⟨((IntKind.u64.wrap x).tmod 11).toNat, by omega, h2.symm⟩
  obtain ⟨q, hq⟩ : ∃ q : Nat, (q : Int) = y % 4 := ⟨(y % 4).toNat, by omega⟩
  have hq4 : q < 4 := by omega
  obtain ⟨f1, f2, f3⟩ := gc_all ⟨q, hq4⟩ ⟨r, hr⟩
  simp only at f1 f2 f3
  rw [← scan_F] at f1
  have hz : (gcs q r).size ≤ 1048576 := by unfold gcs; rw [ByteArray.size_append]; have : ({ data := #[32, 98] } : ByteArray).size = 2 := rfl; omega
  have HSC := Lib.hid (fun W => rscan_is (gcs q r) _ _ f1 hz W)
  obtain ⟨-, -, hsc⟩ := scan_good f1
  have hl : (gcl q r).length ≤ 1048576 := by show 2 ≤ 1048576; omega
  have HB1 := Lib.hid (fun v W h => broken_any hsc hz hl v 1 W h)
  have HG1 := Lib.hid (fun v W h => blankg_any hsc hz hl v 1 W h)
  have HB2 := Lib.hid (fun v W h => broken_any hsc hz hl v 2 W h)
  have HB0 := Lib.hid (fun v W h => broken_any hsc hz hl v (-1) W h)
  rw [f2] at HB1 HG1
  rw [nls_out (s := gcs q r) (L := gcl q r) (k := 2) (.inr (by show (2 : Int) ≤ 2; omega))] at HB2
  rw [nls_out (s := gcs q r) (L := gcl q r) (k := -1) (.inl (by omega))] at HB0
  have d0 : decide (1 ≤ 0) = false := rfl
  rw [d0] at HB2 HB0
  unfold gcs at HSC HB1 HG1 HB2 HB0
  have HQ := Lib.hid hq
  clear f1 f2 hsc hl hz hq d0
  go_enter Try.func6, Try.ntmps6
  go_wp2_with fail
  go_loopg [6, 7] r (fun gn s i wr => ∃ (k : Nat) (S : ByteArray), gn = r - k ∧ k ≤ r ∧ i = .int .i64 (k : Int) ∧ s = .string S ∧ S.size ≤ 2 * k + 1 ∧ Hid (S = gct q k) ∧ Hid (Below w.heap.size w wr))
  case atStart => exact ⟨0, _, rfl, Nat.zero_le _, rfl, rfl, by decide, Lib.hid rfl, Lib.hid (Below.refl _ _)⟩
  case round =>
    obtain ⟨k, S, hgn, hk, rfl, rfl, hS, HS, HW⟩ := hrel
    by_cases hlt : k < r
    · have kn : (k : Int) < (r : Int) := by omega
      obtain ⟨m, hm⟩ : ∃ m : Nat, m = (q + k) % 4 := ⟨_, rfl⟩
      have hm4 : m < 4 := by omega
      have hb : bits .and .i64 (wrap64 (y + (k : Int))) 3 = (m : Int) := by
        have := HQ.out
        rw [and3]; unfold wrap64; omega
      have HV := pc_val m hm4
      have hp := pc_size ⟨m, hm4⟩
      simp only at hp
      have HS2 : Hid (S ++ pc m = gct q (k + 1)) := Lib.hid (by rw [HS.out, hm]; rfl)
      obtain ⟨P, hP⟩ : ∃ P, P = pc m := ⟨_, rfl⟩
      rw [← hP] at HV hp HS2
      have hz2 : (S ++ P).size ≤ 2 * (k + 1) + 1 := by rw [ByteArray.size_append]; omega
      clear hP hm
      go_wp2_with fail
      go_roundg (r - (k + 1))
      case measure => omega
      case rel => exact ⟨k + 1, S ++ P, rfl, hlt, by go_num, rfl, hz2, HS2, Lib.hid (HW.out.alloc HW.out.size _)⟩
    · obtain rfl : k = r := by omega
      rw [← HS.out] at HSC HB1 HG1 HB2 HB0
      have hrr : k = 0 ∨ k = 1 ∨ 2 ≤ k := by omega
      rcases hrr with h | h | h
      · have e0 : decide (1 ≤ k) = false := decide_eq_false (by omega)
        have e1 : decide (2 ≤ k) = false := decide_eq_false (by omega)
        rw [e0] at HB1
        rw [e1] at HG1
        have g0 : ¬ (0 : Int) < (k : Int) := by omega
        have g1 : ¬ (1 : Int) < (k : Int) := by omega
        clear e0 e1 h er
        go_wp2_with fail
        refine (HSC.out _).mono ?_
        rintro e w1 ⟨v, rfl, ha1, hb1⟩
        have A1 := Lib.hid (trow_of ha1)
        have B1 : Hid (Below w.heap.size w w1) := Lib.hid (HW.out.trans (hb1.mono HW.out.size))
        obtain ⟨a, cap, rfl, -⟩ := ha1
        have hl2 : (gcl q k).length = 2 := rfl
        rw [hl2] at A1 ⊢
        clear hb1 hl2
        go_wp2_with fail
        refine (told7_any _).mono ?_
        rintro e w2 ⟨rfl, hb2⟩
        have B2 : Hid (Below w1.heap.size w1 w2) := Lib.hid hb2
        clear hb2
        go_wp2_with fail
        refine (HB1.out _ _ (A1.out.below B2.out)).mono ?_
        rintro e w3 ⟨rfl, hb3⟩
        have B3 : Hid (Below w1.heap.size w1 w3) := Lib.hid (B2.out.trans (hb3.mono B2.out.size))
        clear hb3
        go_wp2_with fail
        refine (HG1.out _ _ (A1.out.below B3.out)).mono ?_
        rintro e w4 ⟨rfl, hb4⟩
        have B4 : Hid (Below w1.heap.size w1 w4) := Lib.hid (B3.out.trans (hb4.mono B3.out.size))
        clear hb4
        go_wp2_with fail
        refine (HB2.out _ _ (A1.out.below B4.out)).mono ?_
        rintro e w5 ⟨rfl, hb5⟩
        have B5 : Hid (Below w1.heap.size w1 w5) := Lib.hid (B4.out.trans (hb5.mono B4.out.size))
        clear hb5
        go_wp2_with fail
        refine (HB0.out _ _ (A1.out.below B5.out)).mono ?_
        rintro e w6 ⟨rfl, hb6⟩
        have B6 : Hid (Below w1.heap.size w1 w6) := Lib.hid (B5.out.trans (hb6.mono B5.out.size))
        clear hb6
        go_wp2_with fail
        go_ret
        exact ⟨by first | rfl | exact ret_bool (by simp; omega), B1.out.trans (B6.out.mono B1.out.size)⟩
      · have e0 : decide (1 ≤ k) = true := decide_eq_true (by omega)
        have e1 : decide (2 ≤ k) = false := decide_eq_false (by omega)
        rw [e0] at HB1
        rw [e1] at HG1
        have g0 : (0 : Int) < (k : Int) := by omega
        have g1 : ¬ (1 : Int) < (k : Int) := by omega
        clear e0 e1 h er
        go_wp2_with fail
        refine (HSC.out _).mono ?_
        rintro e w1 ⟨v, rfl, ha1, hb1⟩
        have A1 := Lib.hid (trow_of ha1)
        have B1 : Hid (Below w.heap.size w w1) := Lib.hid (HW.out.trans (hb1.mono HW.out.size))
        obtain ⟨a, cap, rfl, -⟩ := ha1
        have hl2 : (gcl q k).length = 2 := rfl
        rw [hl2] at A1 ⊢
        clear hb1 hl2
        go_wp2_with fail
        refine (told7_any _).mono ?_
        rintro e w2 ⟨rfl, hb2⟩
        have B2 : Hid (Below w1.heap.size w1 w2) := Lib.hid hb2
        clear hb2
        go_wp2_with fail
        refine (HB1.out _ _ (A1.out.below B2.out)).mono ?_
        rintro e w3 ⟨rfl, hb3⟩
        have B3 : Hid (Below w1.heap.size w1 w3) := Lib.hid (B2.out.trans (hb3.mono B2.out.size))
        clear hb3
        go_wp2_with fail
        refine (HG1.out _ _ (A1.out.below B3.out)).mono ?_
        rintro e w4 ⟨rfl, hb4⟩
        have B4 : Hid (Below w1.heap.size w1 w4) := Lib.hid (B3.out.trans (hb4.mono B3.out.size))
        clear hb4
        go_wp2_with fail
        refine (HB2.out _ _ (A1.out.below B4.out)).mono ?_
        rintro e w5 ⟨rfl, hb5⟩
        have B5 : Hid (Below w1.heap.size w1 w5) := Lib.hid (B4.out.trans (hb5.mono B4.out.size))
        clear hb5
        go_wp2_with fail
        refine (HB0.out _ _ (A1.out.below B5.out)).mono ?_
        rintro e w6 ⟨rfl, hb6⟩
        have B6 : Hid (Below w1.heap.size w1 w6) := Lib.hid (B5.out.trans (hb6.mono B5.out.size))
        clear hb6
        go_wp2_with fail
        go_ret
        exact ⟨by first | rfl | exact ret_bool (by simp; omega), B1.out.trans (B6.out.mono B1.out.size)⟩
      · have e0 : decide (1 ≤ k) = true := decide_eq_true (by omega)
        have e1 : decide (2 ≤ k) = true := decide_eq_true (by omega)
        rw [e0] at HB1
        rw [e1] at HG1
        have g0 : (0 : Int) < (k : Int) := by omega
        have g1 : (1 : Int) < (k : Int) := by omega
        clear e0 e1 h er
        go_wp2_with fail
        refine (HSC.out _).mono ?_
        rintro e w1 ⟨v, rfl, ha1, hb1⟩
        have A1 := Lib.hid (trow_of ha1)
        have B1 : Hid (Below w.heap.size w w1) := Lib.hid (HW.out.trans (hb1.mono HW.out.size))
        obtain ⟨a, cap, rfl, -⟩ := ha1
        have hl2 : (gcl q k).length = 2 := rfl
        rw [hl2] at A1 ⊢
        clear hb1 hl2
        go_wp2_with fail
        refine (told7_any _).mono ?_
        rintro e w2 ⟨rfl, hb2⟩
        have B2 : Hid (Below w1.heap.size w1 w2) := Lib.hid hb2
        clear hb2
        go_wp2_with fail
        refine (HB1.out _ _ (A1.out.below B2.out)).mono ?_
        rintro e w3 ⟨rfl, hb3⟩
        have B3 : Hid (Below w1.heap.size w1 w3) := Lib.hid (B2.out.trans (hb3.mono B2.out.size))
        clear hb3
        go_wp2_with fail
        refine (HG1.out _ _ (A1.out.below B3.out)).mono ?_
        rintro e w4 ⟨rfl, hb4⟩
        have B4 : Hid (Below w1.heap.size w1 w4) := Lib.hid (B3.out.trans (hb4.mono B3.out.size))
        clear hb4
        go_wp2_with fail
        refine (HB2.out _ _ (A1.out.below B4.out)).mono ?_
        rintro e w5 ⟨rfl, hb5⟩
        have B5 : Hid (Below w1.heap.size w1 w5) := Lib.hid (B4.out.trans (hb5.mono B4.out.size))
        clear hb5
        go_wp2_with fail
        refine (HB0.out _ _ (A1.out.below B5.out)).mono ?_
        rintro e w6 ⟨rfl, hb6⟩
        have B6 : Hid (Below w1.heap.size w1 w6) := Lib.hid (B5.out.trans (hb6.mono B5.out.size))
        clear hb6
        go_wp2_with fail
        go_ret
        exact ⟨by first | rfl | exact ret_bool (by simp; omega), B1.out.trans (B6.out.mono B1.out.size)⟩
set_option maxRecDepth 100000 in
theorem lifted (os : Os) (started : os.Started) (H : Type) (enc : TypeId × Value → H) :
    ReturnsInHanded {} Try.checked os 6 .any (Rows.gapCountsSpec.pre6 enc Try.prog Try.f6 Rows.gapCountsRow.domain false) (Rows.gapCountsSpec.post enc Try.prog Try.f6 false true false false) := by
  refine returnsInHanded_of_change (C := Try.checked) ownKnobNone started (by kernel_rfl) Try.func6
    (ChangeSpec.witness6 (enc := enc) (C := Try.checked) false ⟨#[], #[.int .i64 0, .int .i64 0], []⟩ 8 (by kernel_rfl) (by kernel_rfl) (by kernel_rfl) (by kernel_rfl)) ?_
  intro W base args ds gs before hval0 hW hcnd _
  have hval : ∀ (j : Nat) t v, Try.f6.params[j]? = some t → args[j]? = some v → Value.okWide Try.prog W .any base t v := hval0
  have hW' := hW
  obtain ⟨p, q, hA0, hV, rfl, hfz, hnd⟩ := hW
  have hA : DataW.TrodAll enc Try.prog W 0 (fun _ => true) true Try.f6.params.toList args.toList ds p := hA0
  rw [Try.params6] at hA hval
  obtain ⟨v0, vs0, d0, ds0, p0, q0, hargs, rfl, rfl, h0, r0⟩ := trodAll_cons hA
  obtain ⟨v1, vs1, d1, ds1, p1, q1, rfl, rfl, rfl, h1, r1⟩ := trodAll_cons r0
  obtain ⟨rfl, rfl, rfl⟩ := trodAll_nil r1
  obtain rfl : args = #[v0, v1] := by cases args; simp_all
  obtain ⟨rfl, rfl⟩ := trodVars_none hV
  obtain ⟨a0, rfl, rfl, rfl, w0⟩ := open_int Try.underlying3 (hval 0 3 v0 rfl rfl) h0
  obtain ⟨a1, rfl, rfl, rfl, w1⟩ := open_int Try.underlying3 (hval 1 3 v1 rfl rfl) h1
  clear hA0 hval0
  simp only [List.append_nil] at hW'
  refine (walk a0 a1 W).mono fun e W' ⟨he, bel⟩ => ?_
  subst he
  exact ⟨_, rfl, _, _, _, [], _, [], hW', trodAll_mk1 (shut_bool Try.underlying4 _), (trodAll_cons_mk (shut_int Try.underlying3 w0) (trodAll_cons_mk (shut_int Try.underlying3 w1) trodAll_mk0)), rfl, bel.frame _, fun h => by cases h⟩
theorem over : Rows.GapCountsSaid :=
  OpenClaim.holds_of_wide 6 Try.f6 rfl rfl rfl rfl rfl rfl rfl ⟨rfl, rfl, rfl, rfl, rfl⟩ rfl rfl rfl rfl rfl (by kernel_rfl) Try.func6 (by kernel_rfl)
    (of_decide_eq_true (by kernel_rfl)) (by unfold Func.isWrapper; first | (rw [if_pos (by decide +kernel)]; kernel_rfl) | (rw [if_neg (by decide +kernel)]; exact ⟨rfl, rfl⟩))
    (fun os started H enc _ => lifted os started H enc)
/-- THE STATEMENT. -/
theorem proved : Rows.GapCountsSaid := over
#print axioms proved
end Go.Proofs.Ytlajngjbajabiaa.gapCounts
