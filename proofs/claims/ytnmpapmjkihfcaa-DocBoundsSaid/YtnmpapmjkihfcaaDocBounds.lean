/-
  Nests from 0 to 1,000 may be, groups 0 and 1; a text has no newline; what is no text has no Text (promise 15.1): for every two numbers the statement DocBounds returns true. No condition.
-/
import Derived.Test.YtnmpapmjkihfcaaBase
import Derived.Test.YtnmpapmjkihfcaaDoc
import Derived.Test.YtnmpapmjkihfcaaDocTold
import Derived.Deep.CutRange
set_option linter.all false
namespace Go.Proofs.Ytnmpapmjkihfcaa.docBounds
open Go.ChangeShapes Go.WideShapes Go.RowKit Go.PlainAid

def MayP (D K : Int) : Prop := 1 ≤ D ∧ D ≤ 7 ∧ (K = 0 ∨ (D = 6 ∧ 0 < K ∧ K ≤ 1000) ∨ (D = 7 ∧ K = 1))
instance (D K : Int) : Decidable (MayP D K) := by unfold MayP; infer_instance
theorem may_x (D K : Int) : drt (.mk D K ⟨#[]⟩ []) = decide (MayP D K) := by
  have h0 : ((⟨#[]⟩ : ByteArray).toList == ([] : List UInt8)) = true := by decide +kernel
  have h1 : ((⟨#[]⟩ : ByteArray).data.toList.contains 10) = false := by decide +kernel
  simp only [drt, drtL, dal, h0, h1, List.isEmpty_nil, Bool.and_true, Bool.not_false]
  rw [Bool.eq_iff_iff, decide_eq_true_iff]
  unfold MayP
  split
  · simp; omega
  split
  · simp; omega
  split
  · simp; omega
  split
  · simp; omega
  split
  · simp; omega
  · simp; omega
theorem may_y (D : Int) : drt (.mk D 0 ⟨#[116]⟩ []) = (D == 1) := by
  have h0 : ((⟨#[116]⟩ : ByteArray).toList == ([] : List UInt8)) = false := by decide +kernel
  have h1 : ((⟨#[116]⟩ : ByteArray).data.toList.contains 10) = false := by decide +kernel
  simp only [drt, drtL, dal, h0, h1, List.isEmpty_nil, Bool.and_true, Bool.not_false, Bool.and_false]
  rw [Bool.eq_iff_iff]
  split
  · simp; omega
  · have : (D == 1) = false := by simp; omega
    rw [this]
    split
    · simp
    split
    · simp
    split
    · simp
    split
    · simp
    · simp
theorem may_z (D : Int) : drt (.mk D 0 ⟨#[]⟩ [tA]) = (decide (5 ≤ D) && decide (D ≤ 7)) := by
  have h0 : ((⟨#[]⟩ : ByteArray).toList == ([] : List UInt8)) = true := by decide +kernel
  have h2 : drt tA = true := by decide +kernel
  simp only [drt, drtL, h2, dal, h0, List.isEmpty_cons, Bool.and_true, Bool.false_and, Bool.and_false]
  rw [Bool.eq_iff_iff]
  split
  · simp; omega
  split
  · simp; omega
  split
  · simp; omega
  split
  · simp; omega
  split
  · simp; omega
  · simp; omega
theorem kv (r : Nat) (hr : r < 7) : ∃ K : Int, ([Value.int .i64 (-1), Value.int .i64 0, Value.int .i64 1, Value.int .i64 2, Value.int .i64 999, Value.int .i64 1000, Value.int .i64 1001][r]'(by simpa using hr)) = .int .i64 K := by
  match r, hr with
  | 0, _ | 1, _ | 2, _ | 3, _ | 4, _ | 5, _ | 6, _ => exact ⟨_, rfl⟩
set_option maxRecDepth 100000 in
set_option maxHeartbeats 4000000 in
theorem walk (n kind : Int) (w : World) :
    Calls Try.prog 6 #[.int .i64 n, .int .i64 kind] w fun e w' => e = .returned (.bool true) ∧ Below w.heap.size w w' := by
  obtain ⟨r, hr, er⟩ : ∃ r : Nat, r < 7 ∧ (IntKind.u64.wrap n).tmod 7 = (r : Int) := by
    have := IntKind.wrap_u64 n
    have h0 := Int.tmod_nonneg (a := IntKind.u64.wrap n) 7 (by omega)
    have h1 := Int.tmod_lt_of_pos (IntKind.u64.wrap n) (b := 7) (by omega)
    have h2 := Int.toNat_of_nonneg h0
    exact ⟨((IntKind.u64.wrap n).tmod 7).toNat, by omega, h2.symm⟩
  obtain ⟨s, hs, es⟩ : ∃ s : Nat, s < 9 ∧ (IntKind.u64.wrap kind).tmod 9 = (s : Int) := by
    have := IntKind.wrap_u64 kind
    have h0 := Int.tmod_nonneg (a := IntKind.u64.wrap kind) 9 (by omega)
    have h1 := Int.tmod_lt_of_pos (IntKind.u64.wrap kind) (b := 9) (by omega)
    have h2 := Int.toNat_of_nonneg h0
    exact ⟨((IntKind.u64.wrap kind).tmod 9).toNat, by omega, h2.symm⟩
  obtain ⟨K, hK⟩ := kv r hr
  obtain ⟨D, hD⟩ : ∃ D : Int, D = (s : Int) - 1 := ⟨_, rfl⟩
  have hD0 : -1 ≤ D := by omega
  have hD7 : D ≤ 7 := by omega
  go_enter Try.func6, Try.ntmps6
  go_upto_region 4 with fail
  rw [← hD]
  obtain ⟨Z, hZ⟩ : ∃ Z, Z = (w.alloc (.cells #[.int .i64 (-1), .int .i64 0, .int .i64 1, .int .i64 2, .int .i64 999, .int .i64 1000, .int .i64 1001] 3)).alloc (.cells #[.int .i64 D, .int .i64 K, .string ⟨#[]⟩, .slice none 0 0] 24) := ⟨_, rfl⟩
  have HWZ : Hid (Below w.heap.size w Z) := Lib.hid (by rw [hZ]; exact (below1 _ _).alloc (by simp) _)
  have HZX : Hid (Z.heap[w.heap.size + 1]? = some (.cells #[.int .i64 D, .int .i64 K, .string ⟨#[]⟩, .slice none 0 0] 24)) := Lib.hid (by rw [hZ]; exact new_at' (by simp))
  have HZS : Hid (Z.heap.size = w.heap.size + 2) := Lib.hid (by rw [hZ]; simp)
  rw [← hZ]
  clear hZ hK er es hr hs hD
  go_cut [8] from 26 to 55 (fun p wx => p = .bool (decide (MayP D K)) ∧ wx = Z)
  case first =>
    go_wp2_with fail
    all_goals (try subst_vars)
    all_goals go_meet
    all_goals refine ⟨?_, rfl⟩
    all_goals congr 1
    all_goals rw [Bool.eq_iff_iff, decide_eq_true_iff]
    all_goals unfold MayP
    all_goals first
      | (simp; done)
      | (simp; omega)
      | (simp at *; omega)
      | trace_state
  case rest =>
    obtain ⟨rfl, rfl⟩ := hcut
    obtain ⟨b0, hb0⟩ : ∃ b, b = decide (MayP D K) := ⟨_, rfl⟩
    rw [← hb0]
    obtain ⟨b2, hb2⟩ : ∃ b, b = (D == 1) := ⟨_, rfl⟩
    have HTA : Hid (∀ W, Below wc.heap.size wc W → Calls Try.prog 16 #[.string ⟨#[97]⟩] W fun e w' => ∃ a c, e = .returned (.agg #[.int .i64 1, .int .i64 0, .string ⟨#[97]⟩, .slice a 0 c]) ∧ Hid (Below wc.heap.size wc w') ∧ Hid (∀ W P, DcIn W P [.int .i64 1, .int .i64 0, .string ⟨#[97]⟩, .slice a 0 c] tA) ∧ Hid (Below W.heap.size W w')) := Lib.hid fun V hb => (text_any ⟨#[97]⟩ (by show (1 : Nat) ≤ 1048576; omega) V (fun _ => False)).mono fun e w' h => by
      obtain ⟨a, c, q1, q2, q3⟩ := h.sl
      exact ⟨a, c, q1, Lib.hid (hb.trans (q2.mono hb.size)), Lib.hid fun W P => q3.bare, Lib.hid q2⟩
    have HB0 : Hid (Below wc.heap.size wc (wc.alloc (.cells #[.int .i64 D, .int .i64 0, .string ⟨#[116]⟩, .slice none 0 0] 24))) := Lib.hid (below1 _ _)
    have HX0 : Hid ((wc.alloc (.cells #[.int .i64 D, .int .i64 0, .string ⟨#[116]⟩, .slice none 0 0] 24)).heap[w.heap.size + 1]? = some (.cells #[.int .i64 D, .int .i64 K, .string ⟨#[]⟩, .slice none 0 0] 24)) := Lib.hid ((Lib.alloc_old _ _ _ (lt_of_block HZX.out)).trans HZX.out)
    have HY0 : Hid ((wc.alloc (.cells #[.int .i64 D, .int .i64 0, .string ⟨#[116]⟩, .slice none 0 0] 24)).heap[wc.heap.size]? = some (.cells #[.int .i64 D, .int .i64 0, .string ⟨#[116]⟩, .slice none 0 0] 24)) := Lib.hid new_at
    go_wp2_with fail
    refine (HTA.out _ HB0.out).mono ?_
    rintro e w1 ⟨a1, c1, rfl, hb1, hd1, hk1⟩
    have HX1 : Hid (w1.heap[w.heap.size + 1]? = some (.cells #[.int .i64 D, .int .i64 K, .string ⟨#[]⟩, .slice none 0 0] 24)) := Lib.hid ((hk1.out.block _ (lt_of_block HX0.out)).trans HX0.out)
    have HY1 : Hid (w1.heap[wc.heap.size]? = some (.cells #[.int .i64 D, .int .i64 0, .string ⟨#[116]⟩, .slice none 0 0] 24)) := Lib.hid ((hk1.out.block _ (lt_of_block HY0.out)).trans HY0.out)
    clear HX0 HY0 hk1 HB0
    go_upto_region 7 with fail
    rw [← hb0]
    obtain ⟨V, hV⟩ : ∃ V, V = (w1.alloc (.cells #[.int .i64 1, .int .i64 0, .string ⟨#[97]⟩, .slice a1 0 c1] 24)).alloc (.cells #[.int .i64 D, .int .i64 0, .string ⟨#[]⟩, .slice (some ⟨w1.heap.size, 0, none⟩) 1 1] 24) := ⟨_, rfl⟩
    have HV1 : Hid (Below w1.heap.size w1 V) := Lib.hid (by rw [hV]; exact (below1 _ _).alloc (by simp) _)
    have HVW : Hid (Below w.heap.size w V) := Lib.hid (by
      have q1 := HWZ.out.trans (hb1.out.mono HWZ.out.size)
      exact q1.trans (HV1.out.mono q1.size))
    have hvx : V.heap[w.heap.size + 1]? = some (.cells #[.int .i64 D, .int .i64 K, .string ⟨#[]⟩, .slice none 0 0] 24) := (HV1.out.block _ (lt_of_block HX1.out)).trans HX1.out
    have hvy : V.heap[wc.heap.size]? = some (.cells #[.int .i64 D, .int .i64 0, .string ⟨#[116]⟩, .slice none 0 0] 24) := (HV1.out.block _ (lt_of_block HY1.out)).trans HY1.out
    have hvz : V.heap[w1.heap.size + 1]? = some (.cells #[.int .i64 D, .int .i64 0, .string ⟨#[]⟩, .slice (some ⟨w1.heap.size, 0, none⟩) 1 1] 24) := by rw [hV]; exact new_at' (by simp)
    have hvr : V.heap[w1.heap.size]? = some (.cells #[.int .i64 1, .int .i64 0, .string ⟨#[97]⟩, .slice a1 0 c1] 24) := by rw [hV]; exact new_un rfl
    have HDZ : Hid (DcAt V [.int .i64 D, .int .i64 0, .string ⟨#[]⟩, .slice (some ⟨w1.heap.size, 0, none⟩) 1 1] (.mk D 0 ⟨#[]⟩ [tA])) := Lib.hid ((row1 (P := fun g => g < V.heap.size) (lt_of_block hvr) hvr (hd1.out V _)).dc D 0 ⟨#[]⟩)
    have CV := Lib.hid (fun W (hb : Below V.heap.size V W) => (⟨(four_of ((hb.block _ (lt_of_block hvx)).trans hvx)).1, (four_of ((hb.block _ (lt_of_block hvy)).trans hvy)).1, (four_of ((hb.block _ (lt_of_block hvz)).trans hvz)).1⟩ :
      (W.cell? ⟨w.heap.size + 1, 0, none⟩ = some (.int .i64 D) ∧ W.cell? ⟨w.heap.size + 1, 1, none⟩ = some (.int .i64 K) ∧ W.cell? ⟨w.heap.size + 1, 2, none⟩ = some (.string ⟨#[]⟩) ∧ W.cell? ⟨w.heap.size + 1, 3, none⟩ = some (.slice none 0 0)) ∧
      (W.cell? ⟨wc.heap.size, 0, none⟩ = some (.int .i64 D) ∧ W.cell? ⟨wc.heap.size, 1, none⟩ = some (.int .i64 0) ∧ W.cell? ⟨wc.heap.size, 2, none⟩ = some (.string ⟨#[116]⟩) ∧ W.cell? ⟨wc.heap.size, 3, none⟩ = some (.slice none 0 0)) ∧
      (W.cell? ⟨w1.heap.size + 1, 0, none⟩ = some (.int .i64 D) ∧ W.cell? ⟨w1.heap.size + 1, 1, none⟩ = some (.int .i64 0) ∧ W.cell? ⟨w1.heap.size + 1, 2, none⟩ = some (.string ⟨#[]⟩) ∧ W.cell? ⟨w1.heap.size + 1, 3, none⟩ = some (.slice (some ⟨w1.heap.size, 0, none⟩) 1 1))))
    rw [← hV]
    clear hvx hvy hvz hvr hV HX1 HY1 HV1 hd1 hb1 HZX HZS
    have HM : Hid (∀ x b c W, dcnt x ≤ 500 → drt x = b → DcAt W c x → Below V.heap.size V W → Calls Try.prog 9 #[.agg c.toArray] W fun e w' => e = .returned (.bool b) ∧ Below V.heap.size V w') := Lib.hid fun x b c W hx hb hd h => (pdmay_any x (by omega) c W hd).mono fun e w' ⟨h1, h2⟩ => ⟨by rw [h1, hb], h.trans (h2.mono h.size)⟩
    have HT : Hid (∀ W, Below V.heap.size V W → Calls Try.prog 8 #[] W fun e w' => e = .returned (.bool true) ∧ Below V.heap.size V w') := Lib.hid fun W h => (told15_any W).mono fun e w' ⟨h1, h2⟩ => ⟨h1, h.trans (h2.mono h.size)⟩
    have HMX : Hid (∀ W, Below V.heap.size V W → Calls Try.prog 9 #[.agg #[.int .i64 D, .int .i64 K, .string ⟨#[]⟩, .slice none 0 0]] W fun e w' => e = .returned (.bool b0) ∧ Below V.heap.size V w') := Lib.hid fun W h => HM.out (.mk D K ⟨#[]⟩ []) b0 _ W (by simp [dcnt, dcntL]) (by rw [may_x, hb0]) (leaf_at _ _ _ _ _) h
    have HMY : Hid (∀ W, Below V.heap.size V W → Calls Try.prog 9 #[.agg #[.int .i64 D, .int .i64 0, .string ⟨#[116]⟩, .slice none 0 0]] W fun e w' => e = .returned (.bool b2) ∧ Below V.heap.size V w') := Lib.hid fun W h => HM.out (.mk D 0 ⟨#[116]⟩ []) b2 _ W (by simp [dcnt, dcntL]) (by rw [may_y, hb2]) (leaf_at _ _ _ _ _) h
    have HTX : Hid (∀ t : ByteArray, t.size ≤ 1048576 → ∀ W, Below V.heap.size V W → Calls Try.prog 16 #[.string t] W fun e w' => ∃ a c, e = .returned (.agg #[.int .i64 1, .int .i64 0, .string t, .slice a 0 c]) ∧ Below V.heap.size V w' ∧
        Hid (∀ b W, drt (.mk 1 0 t []) = b → Below V.heap.size V W → Calls Try.prog 9 #[.agg #[.int .i64 1, .int .i64 0, .string t, .slice a 0 c]] W fun e w' => e = .returned (.bool b) ∧ Below V.heap.size V w')) := Lib.hid fun t ht W hb => (text_any t ht W (fun _ => False)).mono fun e w' h => by
      obtain ⟨a, c, q1, q2, q3⟩ := h.sl
      exact ⟨a, c, q1, hb.trans (q2.mono hb.size), Lib.hid fun b W2 hb2 h2 => HM.out (.mk 1 0 t []) b _ W2 (by simp [dcnt, dcntL]) hb2 q3.bare h2⟩
    have tn1 : drt (.mk 1 0 ⟨#[97, 10, 98]⟩ []) = false := by decide +kernel
    have tn2 : drt (.mk 1 0 ⟨#[]⟩ []) = true := by decide +kernel
    have HTN := Lib.hid (⟨tn1, tn2⟩ : drt (.mk 1 0 ⟨#[97, 10, 98]⟩ []) = false ∧ drt (.mk 1 0 ⟨#[]⟩ []) = true)
    have HBV : Hid (Below V.heap.size V V) := Lib.hid (Below.refl _ _)
    have HM5 : Hid (decide (5 ≤ D) = true → ∀ W, Below V.heap.size V W → Calls Try.prog 9 #[.agg #[.int .i64 D, .int .i64 0, .string ⟨#[]⟩, .slice (some ⟨w1.heap.size, 0, none⟩) 1 1]] W fun e w' => e = .returned (.bool true) ∧ Below V.heap.size V w') := Lib.hid fun h5 W h => HM.out (.mk D 0 ⟨#[]⟩ [tA]) true _ W (by simp [dcnt, dcntL, tA]) (by rw [may_z, h5]; simp; omega) (HDZ.out.down h) h
    have HM4 : Hid (decide (5 ≤ D) = false → ∀ W, Below V.heap.size V W → Calls Try.prog 9 #[.agg #[.int .i64 D, .int .i64 0, .string ⟨#[]⟩, .slice (some ⟨w1.heap.size, 0, none⟩) 1 1]] W fun e w' => e = .returned (.bool false) ∧ Below V.heap.size V w') := Lib.hid fun h5 W h => HM.out (.mk D 0 ⟨#[]⟩ [tA]) false _ W (by simp [dcnt, dcntL, tA]) (by rw [may_z, h5]; rfl) (HDZ.out.down h) h
    have e0 : (b0 == b0) = true := beq_self_eq_true _
    have e2 : (b2 == b2) = true := beq_self_eq_true _
    have HE2 : Hid (b2 = (D == 1)) := Lib.hid hb2
    have e7 : D ≤ 7 := hD7
    clear tn1 tn2 HTA HM HDZ hb0 hb2 hD0 hD7
    cases h5 : decide (5 ≤ D)
    all_goals
      obtain ⟨⟨d0, d1, d2, d3⟩, ⟨f0, f1, f2, f3⟩, ⟨g0, g1, g2, g3⟩⟩ := CV.out _ HBV.out
      go_wp2_with fail
      refine (HT.out _ HBV.out).mono ?_
      rintro e w2 ⟨rfl, ht⟩
      clear d0 d1 d2 d3 f0 f1 f2 f3 g0 g1 g2 g3
      obtain ⟨⟨d0, d1, d2, d3⟩, ⟨f0, f1, f2, f3⟩, ⟨g0, g1, g2, g3⟩⟩ := CV.out _ ht
      have HB2 := Lib.hid ht
      clear ht
      go_wp2_with fail
      refine (HMX.out _ HB2.out).mono ?_
      rintro e w3 ⟨rfl, ht⟩
      clear d0 d1 d2 d3 f0 f1 f2 f3 g0 g1 g2 g3
      obtain ⟨⟨d0, d1, d2, d3⟩, ⟨f0, f1, f2, f3⟩, ⟨g0, g1, g2, g3⟩⟩ := CV.out _ ht
      have HB3 := Lib.hid ht
      clear ht
      go_wp2_with fail
      refine (HMY.out _ HB3.out).mono ?_
      rintro e w4 ⟨rfl, ht⟩
      clear d0 d1 d2 d3 f0 f1 f2 f3 g0 g1 g2 g3
      obtain ⟨⟨d0, d1, d2, d3⟩, ⟨f0, f1, f2, f3⟩, ⟨g0, g1, g2, g3⟩⟩ := CV.out _ ht
      have HB4 := Lib.hid ht
      clear ht
      have e3 : (b2 == (D == 1)) = true := by rw [← HE2.out]; exact beq_self_eq_true _
      go_wp2_with fail
      (first | refine (HM5.out h5 _ HB4.out).mono ?_ | refine (HM4.out h5 _ HB4.out).mono ?_)
      rintro e w5 ⟨rfl, ht⟩
      have HB5 := Lib.hid ht
      clear ht d0 d1 d2 d3 f0 f1 f2 f3 g0 g1 g2 g3
      go_wp2_with fail
      refine (HTX.out ⟨#[97, 10, 98]⟩ (by show (3 : Nat) ≤ 1048576; omega) _ HB5.out).mono ?_
      rintro e w6 ⟨a6, c6, rfl, ht, hm6⟩
      have HB6 := Lib.hid ht
      clear ht
      go_wp2_with fail
      refine (hm6.out _ _ HTN.out.1 HB6.out).mono ?_
      rintro e w7 ⟨rfl, ht⟩
      have HB7 := Lib.hid ht
      clear ht hm6
      go_wp2_with fail
      refine (HTX.out ⟨#[]⟩ (by show (0 : Nat) ≤ 1048576; omega) _ HB7.out).mono ?_
      rintro e w8 ⟨a8, c8, rfl, ht, hm8⟩
      have HB8 := Lib.hid ht
      clear ht
      go_wp2_with fail
      refine (hm8.out _ _ HTN.out.2 HB8.out).mono ?_
      rintro e w9 ⟨rfl, ht⟩
      have HB9 := Lib.hid (HVW.out.trans (ht.mono HVW.out.size))
      clear ht hm8
      go_wp2_with fail
      go_ret
      exact ⟨rfl, HB9.out⟩
set_option maxRecDepth 100000 in
theorem lifted (os : Os) (started : os.Started) (H : Type) (enc : TypeId × Value → H) :
    ReturnsInHanded {} Try.checked os 6 .any (Rows.docBoundsSpec.pre6 enc Try.prog Try.f6 Rows.docBoundsRow.domain false) (Rows.docBoundsSpec.post enc Try.prog Try.f6 false true false false) := by
  refine returnsInHanded_of_change (C := Try.checked) ownKnobNone started (by kernel_rfl) Try.func6
    (ChangeSpec.witness6 (enc := enc) (C := Try.checked) false ⟨#[], #[.int .i64 0, .int .i64 0], []⟩ 8 (by kernel_rfl) (by kernel_rfl) (by kernel_rfl) (by kernel_rfl)) ?_
  intro W base args ds gs before hval0 hW hcnd _
  have hval : ∀ (j : Nat) t v, Try.f6.params[j]? = some t → args[j]? = some v → Value.okWide Try.prog W .any base t v := hval0
  have hW' := hW
  obtain ⟨p, q, hA0, hV, rfl, hfz, hnd⟩ := hW
  have hA : DataW.TrodAll enc Try.prog W 0 (fun _ => true) true Try.f6.params.toList args.toList ds p := hA0
  rw [Try.params6] at hA hval
  obtain ⟨v0, vs0, d0, ds0, p0, q0, hargs, rfl, rfl, h0, r0⟩ := trodAll_cons hA
  obtain ⟨v1, vs1, d1, ds1, p1, q1, rfl, rfl, rfl, h1, r1⟩ := trodAll_cons r0
  obtain ⟨rfl, rfl, rfl⟩ := trodAll_nil r1
  obtain rfl : args = #[v0, v1] := by cases args; simp_all
  obtain ⟨rfl, rfl⟩ := trodVars_none hV
  obtain ⟨a0, rfl, rfl, rfl, w0⟩ := open_int Try.underlying3 (hval 0 3 v0 rfl rfl) h0
  obtain ⟨a1, rfl, rfl, rfl, w1⟩ := open_int Try.underlying3 (hval 1 3 v1 rfl rfl) h1
  clear hA0 hval0
  simp only [List.append_nil] at hW'
  refine (walk a0 a1 W).mono fun e W' ⟨he, bel⟩ => ?_
  subst he
  exact ⟨_, rfl, _, _, _, [], _, [], hW', trodAll_mk1 (shut_bool Try.underlying4 _), (trodAll_cons_mk (shut_int Try.underlying3 w0) (trodAll_cons_mk (shut_int Try.underlying3 w1) trodAll_mk0)), rfl, bel.frame _, fun h => by cases h⟩
theorem over : Rows.DocBoundsSaid :=
  OpenClaim.holds_of_wide 6 Try.f6 rfl rfl rfl rfl rfl rfl rfl ⟨rfl, rfl, rfl, rfl, rfl⟩ rfl rfl rfl rfl rfl (by kernel_rfl) Try.func6 (by kernel_rfl)
    (of_decide_eq_true (by kernel_rfl)) (by unfold Func.isWrapper; first | (rw [if_pos (by decide +kernel)]; kernel_rfl) | (rw [if_neg (by decide +kernel)]; exact ⟨rfl, rfl⟩))
    (fun os started H enc _ => lifted os started H enc)
/-- THE STATEMENT. -/
theorem proved : Rows.DocBoundsSaid := over
#print axioms proved
end Go.Proofs.Ytnmpapmjkihfcaa.docBounds
