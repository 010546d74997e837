/-
  Items, and their bytes, are what the document says (promise 8.1): for every text and every item the statement SplitAsks returns true. No condition.
-/
import Derived.Test.YtaaijenbcfjdlaaBase
import Derived.Test.YtaaijenbcfjdlaaSplitTold
import Derived.Test.YtaaijenbcfjdlaaRefSplit
import Derived.Test.YtaaijenbcfjdlaaItem
import Derived.Deep.RegionHeld3
namespace Go.Proofs.Ytaaijenbcfjdlaa.splitAsks
open Go.ChangeShapes Go.WideShapes Go.ChangeAt Go.RowKit Go.PlainAid

set_option maxRecDepth 100000 in
set_option maxHeartbeats 4000000 in
theorem walk (s : ByteArray) (_ : s.size ≤ maxLen) (f t : Int) (nt b : Bool) (w : World) :
    Calls Try.prog 3 #[.string s, .agg #[.int .i64 f, .int .i64 t, .bool nt, .bool b]] w fun e w' => e = .returned (.bool true) ∧ Below w.heap.size w w' := by
  by_cases g1 : (1500 : Int) < (s.size : Int)
  · go_enter Try.func3, Try.ntmps3
    go_wp2_with fail
    refine (told8_any _).mono ?_
    rintro e w1 ⟨rfl, hb1⟩
    have B1 : Hid (Below w.heap.size w w1) := Lib.hid ((below1 w _).trans (hb1.mono (by simp)))
    clear hb1
    go_wp2_with fail
    go_ret
    exact ⟨rfl, B1.out⟩
  have hs : s.size ≤ 1500 := by omega
  obtain ⟨L, c, hR⟩ : ∃ L c, scanR s = (L, c) := ⟨_, _, rfl⟩
  have HSC := Lib.hid (fun W => rscan_is s L c hR (by omega) W)
  by_cases hc : c = 0
  · subst hc
    obtain ⟨-, -, hsc⟩ := scan_good hR
    have hl : L.length ≤ s.size := by
      have h : (scanR s).1.length ≤ s.size := scan_len s
      rw [hR] at h; exact h
    have hil := sp_len s L _ 0 (Nat.le_refl _)
    have HP := Lib.hid (fun v W h => split_any8 hsc (by omega) (by omega) v W h)
    have HQ := Lib.hid (fun v W h => rsplit_any hsc (by omega) (by omega) v W h)
    have HB := Lib.hid (fun v f t nt b W h => bytes_any8 hsc (by omega) (by omega) v f t nt b W h)
    have HRB := Lib.hid (fun v f t nt b W h => rbytes_any hsc (by omega) (by omega) v f t nt b W h)
    obtain ⟨I, hI⟩ : ∃ I, I = sp s L 0 := ⟨_, rfl⟩
    rw [← hI] at HP HQ hil
    obtain ⟨F, hF⟩ : ∃ F : Int → Int → ByteArray, F = bytI s L := ⟨_, rfl⟩
    rw [← hF] at HB HRB
    have HIT := Lib.hid (fun W va vb h1 h2 => items_same I va vb (by omega) W h1 h2)
    clear hsc hR hI hF
    go_enter Try.func3, Try.ntmps3
    go_wp2_with fail
    refine (HSC.out _).mono ?_
    rintro e w1 ⟨v, rfl, ha1, hb1⟩
    have A1 := Lib.hid (trow_of ha1)
    have B1 : Hid (Below w.heap.size w w1) := Lib.hid ((below1 w _).trans (hb1.mono (by simp)))
    have CB1 := Lib.hid (fun W (hb : Below w1.heap.size w1 W) => (⟨by
        have h1 := hb1.cell (p := ⟨w.heap.size, 0, none⟩) (by simp)
        rw [hb.cell (p := ⟨w.heap.size, 0, none⟩) (Nat.lt_of_lt_of_le (by simp) hb1.size), h1]; simp, by
        have h1 := hb1.cell (p := ⟨w.heap.size, 1, none⟩) (by simp)
        rw [hb.cell (p := ⟨w.heap.size, 1, none⟩) (Nat.lt_of_lt_of_le (by simp) hb1.size), h1]; simp, by
        have h1 := hb1.cell (p := ⟨w.heap.size, 2, none⟩) (by simp)
        rw [hb.cell (p := ⟨w.heap.size, 2, none⟩) (Nat.lt_of_lt_of_le (by simp) hb1.size), h1]; simp, by
        have h1 := hb1.cell (p := ⟨w.heap.size, 3, none⟩) (by simp)
        rw [hb.cell (p := ⟨w.heap.size, 3, none⟩) (Nat.lt_of_lt_of_le (by simp) hb1.size), h1]; simp⟩ :
      W.cell? ⟨w.heap.size, 0, none⟩ = some (.int .i64 f) ∧ W.cell? ⟨w.heap.size, 1, none⟩ = some (.int .i64 t) ∧ W.cell? ⟨w.heap.size, 2, none⟩ = some (.bool nt) ∧ W.cell? ⟨w.heap.size, 3, none⟩ = some (.bool b)))
    clear hb1 ha1 HSC
    go_wp2_with fail
    refine (HP.out _ _ A1.out).mono ?_
    rintro e w2 ⟨va, rfl, hi2⟩
    have B2 := Lib.hid hi2.2
    have IA := Lib.hid (itAt_of hi2)
    clear hi2
    go_wp2_with fail
    refine (HQ.out _ _ (A1.out.below B2.out)).mono ?_
    rintro e w3 ⟨vb, rfl, hi3⟩
    have B23 := Lib.hid hi3.2
    have B3 : Hid (Below w1.heap.size w1 w3) := Lib.hid (B2.out.trans (B23.out.mono B2.out.size))
    have IB := Lib.hid (itAt_of hi3)
    have IA3 := Lib.hid (IA.out.below B23.out)
    have A3 := Lib.hid (A1.out.below B3.out)
    clear hi3
    go_wp2_with fail
    refine (HIT.out _ _ _ IA3.out IB.out).mono ?_
    rintro e w4 ⟨rfl, n4, rfl⟩
    obtain ⟨aa, ca, rfl, hra⟩ := IA3.out
    obtain ⟨ab, cb, rfl, hrb⟩ := IB.out
    have HRA := Lib.hid hra
    have HRBB := Lib.hid hrb
    obtain ⟨M, hM⟩ : ∃ M, M = I.length := ⟨_, rfl⟩
    rw [← hM] at hil HRA HRBB ⊢
    have HM := Lib.hid hM
    clear hra hrb hM
    go_wp2_with fail
    go_loopg [9] M (fun gn i wr => ∃ (j : Nat), gn = M - j ∧ j ≤ M ∧ i = .int .i64 (j : Int) ∧ Hid (Below w3.heap.size w3 wr))
    case atStart => exact ⟨0, rfl, Nat.zero_le _, rfl, Lib.hid (drew_below _ _)⟩
    case round =>
      obtain ⟨j, hgn, hj, rfl, HW⟩ := hrel
      by_cases hlt : j < M
      · obtain ⟨y, hy⟩ : ∃ y, I[j]? = some y := ⟨_, List.getElem?_eq_getElem (by rw [← HM.out]; exact hlt)⟩
        obtain ⟨ga, rfl, hga, hca⟩ := HRA.out (by omega)
        obtain ⟨gb, rfl, hgb, hcb⟩ := HRBB.out (by omega)
        have hya := hca j y hy
        have hyb := hcb j y hy
        obtain ⟨p, hp⟩ : ∃ p : Int, p = (y.1 : Int) := ⟨_, rfl⟩
        obtain ⟨q, hq⟩ : ∃ q : Int, q = (y.2.1 : Int) := ⟨_, rfl⟩
        obtain ⟨b1, hb1⟩ : ∃ b1, b1 = y.2.2.1 := ⟨_, rfl⟩
        obtain ⟨b2, hb2⟩ : ∃ b2, b2 = y.2.2.2 := ⟨_, rfl⟩
        rw [← hp, ← hq, ← hb1, ← hb2] at hya hyb
        have C := Lib.hid (fun W (hb : Below w3.heap.size w3 W) => (⟨(hb.cell (p := ⟨ga, j * 4, none⟩) hga).trans hya.1, (hb.cell (p := ⟨ga, j * 4 + 1, none⟩) hga).trans hya.2.1, (hb.cell (p := ⟨ga, j * 4 + 2, none⟩) hga).trans hya.2.2.1, (hb.cell (p := ⟨ga, j * 4 + 3, none⟩) hga).trans hya.2.2.2,
          (hb.cell (p := ⟨gb, j * 4, none⟩) hgb).trans hyb.1, (hb.cell (p := ⟨gb, j * 4 + 1, none⟩) hgb).trans hyb.2.1, (hb.cell (p := ⟨gb, j * 4 + 2, none⟩) hgb).trans hyb.2.2.1, (hb.cell (p := ⟨gb, j * 4 + 3, none⟩) hgb).trans hyb.2.2.2, Lib.hid hb⟩ :
          W.cell? ⟨ga, j * 4, none⟩ = some (.int .i64 p) ∧ W.cell? ⟨ga, j * 4 + 1, none⟩ = some (.int .i64 q) ∧ W.cell? ⟨ga, j * 4 + 2, none⟩ = some (.bool b1) ∧ W.cell? ⟨ga, j * 4 + 3, none⟩ = some (.bool b2) ∧
          W.cell? ⟨gb, j * 4, none⟩ = some (.int .i64 p) ∧ W.cell? ⟨gb, j * 4 + 1, none⟩ = some (.int .i64 q) ∧ W.cell? ⟨gb, j * 4 + 2, none⟩ = some (.bool b1) ∧ W.cell? ⟨gb, j * 4 + 3, none⟩ = some (.bool b2) ∧ Hid (Below w3.heap.size w3 W)))
        obtain ⟨X, hX⟩ : ∃ X, X = F p q := ⟨_, rfl⟩
        have D1 : Hid (∀ W, Below w3.heap.size w3 W → Calls Try.prog 12 #[.string s, v, .agg #[.int .i64 p, .int .i64 q, .bool b1, .bool b2]] W fun e w' => e = .returned (.string X) ∧ Below w3.heap.size w3 w') := Lib.hid fun W h => (HB.out v p q b1 b2 W (A3.out.below h)).mono (by rintro e w' ⟨rfl, hb⟩; exact ⟨by rw [hX], h.trans (hb.mono h.size)⟩)
        have D2 : Hid (∀ W, Below w3.heap.size w3 W → Calls Try.prog 13 #[.string s, v, .agg #[.int .i64 p, .int .i64 q, .bool b1, .bool b2]] W fun e w' => e = .returned (.string X) ∧ Below w3.heap.size w3 w') := Lib.hid fun W h => (HRB.out v p q b1 b2 W (A3.out.below h)).mono (by rintro e w' ⟨rfl, hb⟩; exact ⟨by rw [hX], h.trans (hb.mono h.size)⟩)
        have HW3 : Hid (Below w3.heap.size w3 wr.drew) := Lib.hid (Below.drew HW.out)
        have mn : (j : Int) < (M : Int) := by omega
        have zz : (X.toList != X.toList) = false := by simp
        clear hca hcb hya hyb hy hp hq hb1 hb2 hX
        go_wp2_with fail
        go_region_held3 (fun w' => w'.cell? ⟨ga, j * 4, none⟩ = some (.int .i64 p) ∧ w'.cell? ⟨ga, j * 4 + 1, none⟩ = some (.int .i64 q) ∧ w'.cell? ⟨ga, j * 4 + 2, none⟩ = some (.bool b1) ∧ w'.cell? ⟨ga, j * 4 + 3, none⟩ = some (.bool b2) ∧
          w'.cell? ⟨gb, j * 4, none⟩ = some (.int .i64 p) ∧ w'.cell? ⟨gb, j * 4 + 1, none⟩ = some (.int .i64 q) ∧ w'.cell? ⟨gb, j * 4 + 2, none⟩ = some (.bool b1) ∧ w'.cell? ⟨gb, j * 4 + 3, none⟩ = some (.bool b2) ∧ Hid (Below w3.heap.size w3 w')) (first | exact C.out _ HW3.out | exact C.out _ ht1) (first
          | (go_at_call 12; refine (D1.out _ (by first | exact HW3.out | (refine Hid.out ?_; assumption) | assumption)).mono ?_; rintro e w5 ⟨rfl, ht1⟩)
          | (go_at_call 13; refine (D2.out _ (by first | exact HW3.out | (refine Hid.out ?_; assumption) | assumption)).mono ?_; rintro e w5 ⟨rfl, ht1⟩))
        go_wp2_with fail
        go_roundg (M - (j + 1))
        case measure => omega
        case rel => exact ⟨j + 1, rfl, hlt, by go_num, Lib.hid ht1⟩
      · obtain rfl : j = M := by omega
        obtain ⟨X, hX⟩ : ∃ X, X = F f t := ⟨_, rfl⟩
        have CB := Lib.hid (fun W (h : Below w3.heap.size w3 W) => (⟨(CB1.out W (B3.out.trans (h.mono B3.out.size))).1, (CB1.out W (B3.out.trans (h.mono B3.out.size))).2.1, (CB1.out W (B3.out.trans (h.mono B3.out.size))).2.2.1, (CB1.out W (B3.out.trans (h.mono B3.out.size))).2.2.2, Lib.hid h⟩ :
          W.cell? ⟨w.heap.size, 0, none⟩ = some (.int .i64 f) ∧ W.cell? ⟨w.heap.size, 1, none⟩ = some (.int .i64 t) ∧ W.cell? ⟨w.heap.size, 2, none⟩ = some (.bool nt) ∧ W.cell? ⟨w.heap.size, 3, none⟩ = some (.bool b) ∧ Hid (Below w3.heap.size w3 W)))
        have D0 : Hid (∀ W, Below w3.heap.size w3 W → Calls Try.prog 7 #[] W fun e w' => e = .returned (.bool true) ∧ Below w3.heap.size w3 w') := Lib.hid fun W h => (told8_any W).mono (by rintro e w' ⟨rfl, hb⟩; exact ⟨rfl, h.trans (hb.mono h.size)⟩)
        have D1 : Hid (∀ W, Below w3.heap.size w3 W → Calls Try.prog 12 #[.string s, v, .agg #[.int .i64 f, .int .i64 t, .bool nt, .bool b]] W fun e w' => e = .returned (.string X) ∧ Below w3.heap.size w3 w') := Lib.hid fun W h => (HB.out v f t nt b W (A3.out.below h)).mono (by rintro e w' ⟨rfl, hb⟩; exact ⟨by rw [hX], h.trans (hb.mono h.size)⟩)
        have D2 : Hid (∀ W, Below w3.heap.size w3 W → Calls Try.prog 13 #[.string s, v, .agg #[.int .i64 f, .int .i64 t, .bool nt, .bool b]] W fun e w' => e = .returned (.string X) ∧ Below w3.heap.size w3 w') := Lib.hid fun W h => (HRB.out v f t nt b W (A3.out.below h)).mono (by rintro e w' ⟨rfl, hb⟩; exact ⟨by rw [hX], h.trans (hb.mono h.size)⟩)
        have HW3 : Hid (Below w3.heap.size w3 wr.drew) := Lib.hid (Below.drew HW.out)
        have zz : (X.toList == X.toList) = true := by simp
        clear hX
        go_wp2_with fail
        go_region_held3 (fun w' => w'.cell? ⟨w.heap.size, 0, none⟩ = some (.int .i64 f) ∧ w'.cell? ⟨w.heap.size, 1, none⟩ = some (.int .i64 t) ∧ w'.cell? ⟨w.heap.size, 2, none⟩ = some (.bool nt) ∧ w'.cell? ⟨w.heap.size, 3, none⟩ = some (.bool b) ∧ Hid (Below w3.heap.size w3 w')) (first | exact CB.out _ HW3.out | exact CB.out _ ht1) (first
          | (go_at_call 7; refine (D0.out _ (by first | exact HW3.out | (refine Hid.out ?_; assumption) | assumption)).mono ?_; rintro e w5 ⟨rfl, ht1⟩)
          | (go_at_call 12; refine (D1.out _ (by first | exact HW3.out | (refine Hid.out ?_; assumption) | assumption)).mono ?_; rintro e w5 ⟨rfl, ht1⟩)
          | (go_at_call 13; refine (D2.out _ (by first | exact HW3.out | (refine Hid.out ?_; assumption) | assumption)).mono ?_; rintro e w5 ⟨rfl, ht1⟩))
        go_wp2_with fail
        go_ret
        exact ⟨rfl, B1.out.trans ((B3.out.trans (ht1.mono B3.out.size)).mono B1.out.size)⟩
  · clear hR
    go_enter Try.func3, Try.ntmps3
    go_wp2_with fail
    refine (HSC.out _).mono ?_
    rintro e w1 ⟨v1, rfl, ha1, hb1⟩
    have B1 : Hid (Below w.heap.size w w1) := Lib.hid ((below1 w _).trans (hb1.mono (by simp)))
    clear hb1 ha1
    have hcn : (c != 0) = true := by simpa using hc
    go_wp2_with fail
    refine (told8_any _).mono ?_
    rintro e w2 ⟨rfl, hb2⟩
    have B2 : Hid (Below w.heap.size w w2) := Lib.hid (B1.out.trans (hb2.mono B1.out.size))
    clear hb2
    go_wp2_with fail
    go_ret
    exact ⟨rfl, B2.out⟩
set_option maxRecDepth 100000 in
theorem lifted (os : Os) (started : os.Started) (H : Type) (enc : TypeId × Value → H) :
    ReturnsInHanded {} Try.checked os 3 .any (Rows.splitAsksSpec.pre6 enc Try.prog Try.f3 Rows.splitAsksRow.domain false) (Rows.splitAsksSpec.post enc Try.prog Try.f3 false true false false) := by
  refine returnsInHanded_of_change (C := Try.checked) ownKnobNone started (by kernel_rfl) Try.func3
    (ChangeSpec.witness6 (enc := enc) (C := Try.checked) false ⟨#[], #[.string ByteArray.empty, .agg #[.int .i64 0, .int .i64 0, .bool false, .bool false]], []⟩ 8 (by kernel_rfl) (by kernel_rfl) (by kernel_rfl) (by kernel_rfl)) ?_
  intro W base args ds gs before hval0 hW hcnd _
  have hval : ∀ (j : Nat) t v, Try.f3.params[j]? = some t → args[j]? = some v → Value.okWide Try.prog W .any base t v := hval0
  have hW' := hW
  obtain ⟨p, q, hA0, hV, rfl, hfz, hnd⟩ := hW
  have hA : DataW.TrodAll enc Try.prog W 0 (fun _ => true) true Try.f3.params.toList args.toList ds p := hA0
  rw [Try.params3] at hA hval
  obtain ⟨v0, vs0, d0, ds0, p0, q0, hargs, rfl, rfl, h0, r0⟩ := trodAll_cons hA
  obtain ⟨v1, vs1, d1, ds1, p1, q1, rfl, rfl, rfl, h1, r1⟩ := trodAll_cons r0
  obtain ⟨rfl, rfl, rfl⟩ := trodAll_nil r1
  obtain rfl : args = #[v0, v1] := by cases args; simp_all
  obtain ⟨rfl, rfl⟩ := trodVars_none hV
  obtain ⟨a0, rfl, rfl, rfl, w0⟩ := Go.ChangeMaps.open_string Try.underlying9 (hval 0 9 v0 rfl rfl) h0
  obtain ⟨f1, t1, n1, b1, rfl, rfl, rfl, wf1, wt1⟩ := open_it (hval 1 23 v1 rfl rfl) h1
  clear hA0 hval0
  simp only [List.append_nil] at hW'
  refine (walk a0 w0 f1 t1 n1 b1 W).mono fun e W' ⟨he, bel⟩ => ?_
  subst he
  exact ⟨_, rfl, _, _, _, [], _, [], hW', trodAll_mk1 (shut_bool Try.underlying4 _), (trodAll_cons_mk (Go.ChangeMaps.shut_string Try.underlying9 w0) (trodAll_cons_mk (shut_it wf1 wt1) trodAll_mk0)), rfl, bel.frame _, fun h => by cases h⟩
theorem over : Rows.SplitAsksSaid :=
  OpenClaim.holds_of_wide 3 Try.f3 rfl rfl rfl rfl rfl rfl rfl ⟨rfl, rfl, rfl, rfl, rfl⟩ rfl rfl rfl rfl rfl (by kernel_rfl) Try.func3 (by kernel_rfl)
    (of_decide_eq_true (by kernel_rfl)) (by unfold Func.isWrapper; first | (rw [if_pos (by decide +kernel)]; kernel_rfl) | (rw [if_neg (by decide +kernel)]; exact ⟨rfl, rfl⟩))
    (fun os started H enc _ => lifted os started H enc)
/-- THE STATEMENT. -/
theorem proved : Rows.SplitAsksSaid := over
#print axioms proved
end Go.Proofs.Ytaaijenbcfjdlaa.splitAsks
