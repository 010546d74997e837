/-
  Which documents may be, are forced, how many parts they have, is what the document says (promises 15.1, 15.2): for every document the statement DocAsks returns true. No condition.
-/
import Derived.Test.YtdhadeeajgoedabBase
import Derived.Test.YtdhadeeajgoedabDoc
import Derived.Test.YtdhadeeajgoedabDocTold
import Derived.Test.YtdhadeeajgoedabRefDocD
import Derived.Test.YtdhadeeajgoedabDocProg
import Derived.Deep.RegionHeld3
set_option linter.all false
namespace Go.Proofs.Ytdhadeeajgoedab.docAsks
open Go.ChangeShapes Go.WideShapes Go.RowKit Go.PlainAid

theorem d1_cells {w W : World} {k n : Int} {t : ByteArray} {lv : Value} (h : Below (w.alloc (.cells #[.int .i64 k, .int .i64 n, .string t, lv] 24)).heap.size (w.alloc (.cells #[.int .i64 k, .int .i64 n, .string t, lv] 24)) W) :
    W.cell? ⟨w.heap.size, 0, none⟩ = some (.int .i64 k) ∧ W.cell? ⟨w.heap.size, 1, none⟩ = some (.int .i64 n) ∧ W.cell? ⟨w.heap.size, 2, none⟩ = some (.string t) ∧ W.cell? ⟨w.heap.size, 3, none⟩ = some lv :=
  (four_of ((h.block _ (by simp)).trans new_at)).1
set_option maxRecDepth 100000 in
set_option maxHeartbeats 4000000 in
theorem walk (c : List Value) (d : Dc) (w : World) (g : DcAt w c d) :
    Calls Try.prog 3 #[.agg c.toArray] w fun e w' => e = .returned (.bool true) ∧ Below w.heap.size w w' := by
  have HF0 : Hid (∀ W, Below w.heap.size w W → Calls Try.prog 7 #[.agg c.toArray] W fun e w' => e = .returned (.bool (fwD d)) ∧ Below W.heap.size W w') := Lib.hid fun W hb => fwD_any d c W (g.bel hb)
  have HT : Hid (∀ W, Below w.heap.size w W → Calls Try.prog 8 #[] W fun e w' => e = .returned (.bool true) ∧ Below W.heap.size W w') := Lib.hid fun W _ => told15_any W
  cases hf : fwD d
  · rw [hf] at HF0
    cases d with
    | mk k n t l =>
      obtain ⟨lv, cs, rfl, -⟩ := g.inv
      clear g
      have HB0 : Hid (Below w.heap.size w (w.alloc (.cells #[.int .i64 k, .int .i64 n, .string t, lv] 24))) := Lib.hid (below1 _ _)
      go_enter Try.func3, Try.ntmps3
      go_wp2_with fail
      refine (HF0.out _ HB0.out).mono ?_
      rintro e w1 ⟨rfl, hb1⟩
      have HB1 : Hid (Below w.heap.size w w1) := Lib.hid (HB0.out.trans (hb1.mono HB0.out.size))
      clear hb1
      go_wp2_with fail
      refine (HT.out _ HB1.out).mono ?_
      rintro e w2 ⟨rfl, hb2⟩
      have HB2 : Hid (Below w.heap.size w w2) := Lib.hid (HB1.out.trans (hb2.mono HB1.out.size))
      clear hb2
      go_wp2_with fail
      go_ret
      exact ⟨rfl, HB2.out⟩
  · rw [hf] at HF0
    obtain ⟨o1, o2⟩ := fwD_ok hf
    have o3 := dtz_mono (show 100 ≤ 1048576 by omega) _ o2
    obtain ⟨b1, hb1⟩ : ∃ b, b = drt d := ⟨_, rfl⟩
    obtain ⟨b2, hb2⟩ : ∃ b, b = dfrc d := ⟨_, rfl⟩
    obtain ⟨m, hm⟩ : ∃ m, m = dcnt d := ⟨_, rfl⟩
    obtain ⟨Z, hZ⟩ : ∃ Z : World, Z = w := ⟨_, rfl⟩
    have HPM : Hid (∀ W, Below w.heap.size w W → Calls Try.prog 9 #[.agg c.toArray] W fun e w' => e = .returned (.bool b1) ∧ Below W.heap.size W w') := Lib.hid fun W hb => by rw [hb1]; exact pdmay_any d (by omega) c W (g.bel hb)
    have HRM : Hid (∀ W, Below w.heap.size w W → Calls Try.prog 10 #[.agg c.toArray] W fun e w' => e = .returned (.bool b1) ∧ Below W.heap.size W w') := Lib.hid fun W hb => by rw [hb1]; exact rdmay_any d (by omega) o3 c W (g.bel hb)
    have HPF : Hid (∀ W, Below w.heap.size w W → Calls Try.prog 11 #[.agg c.toArray] W fun e w' => e = .returned (.bool b2) ∧ Below W.heap.size W w') := Lib.hid fun W hb => by rw [hb2]; exact pdforced_any d (by omega) c W (g.bel hb)
    have HRF : Hid (∀ W, Below w.heap.size w W → Calls Try.prog 12 #[.agg c.toArray] W fun e w' => e = .returned (.bool b2) ∧ Below W.heap.size W w') := Lib.hid fun W hb => by rw [hb2]; exact rdforced_any 500 (by omega) d o1 c W (g.bel hb)
    have HPC : Hid (∀ W, Below w.heap.size w W → Calls Try.prog 13 #[.agg c.toArray] W fun e w' => e = .returned (.int .i64 (m : Int)) ∧ Below W.heap.size W w') := Lib.hid fun W hb => by rw [hm]; exact pdcount_any d (by omega) c W (g.bel hb)
    have HRC : Hid (∀ W, Below w.heap.size w W → Calls Try.prog 14 #[.agg c.toArray] W fun e w' => e = .returned (.int .i64 (m : Int)) ∧ Below W.heap.size W w') := Lib.hid fun W hb => by rw [hm]; exact rdcount_any 500 (by omega) d o1 c W (g.bel hb)
    clear hZ Z
    cases d with
    | mk k n t l =>
      obtain ⟨lv, cs, rfl, -⟩ := g.inv
      clear g hf o1 o2 o3 hb1 hb2 hm
      obtain ⟨Z, hZ⟩ : ∃ Z, Z = (w.alloc (.cells #[.int .i64 k, .int .i64 n, .string t, lv] 24)) := ⟨_, rfl⟩
      have hbW : Below w.heap.size w Z := by rw [hZ]; exact below1 _ _
      have HB0 : Hid (Below Z.heap.size Z (w.alloc (.cells #[.int .i64 k, .int .i64 n, .string t, lv] 24))) := Lib.hid (by rw [← hZ]; exact Below.refl _ _)
      have UP := Lib.hid (fun W (h : Below Z.heap.size Z W) => hbW.trans (h.mono hbW.size))
      have CC := Lib.hid (fun W (hb : Below Z.heap.size Z W) => (⟨d1_cells (by rw [hZ] at hb; exact hb), Lib.hid hb⟩ : (W.cell? ⟨w.heap.size, 0, none⟩ = some (.int .i64 k) ∧ W.cell? ⟨w.heap.size, 1, none⟩ = some (.int .i64 n) ∧ W.cell? ⟨w.heap.size, 2, none⟩ = some (.string t) ∧ W.cell? ⟨w.heap.size, 3, none⟩ = some lv) ∧ Hid (Below Z.heap.size Z W)))
      have DF : Hid (∀ W, Below Z.heap.size Z W → Calls Try.prog 7 #[.agg #[.int .i64 k, .int .i64 n, .string t, lv]] W fun e w' => e = .returned (.bool true) ∧ Below Z.heap.size Z w') := Lib.hid fun W h => (HF0.out W (UP.out W h)).mono fun e w' ⟨h1, h2⟩ => ⟨h1, h.trans (h2.mono h.size)⟩
      have DT : Hid (∀ W, Below Z.heap.size Z W → Calls Try.prog 8 #[] W fun e w' => e = .returned (.bool true) ∧ Below Z.heap.size Z w') := Lib.hid fun W h => (HT.out W (UP.out W h)).mono fun e w' ⟨h1, h2⟩ => ⟨h1, h.trans (h2.mono h.size)⟩
      have DPM : Hid (∀ W, Below Z.heap.size Z W → Calls Try.prog 9 #[.agg #[.int .i64 k, .int .i64 n, .string t, lv]] W fun e w' => e = .returned (.bool b1) ∧ Below Z.heap.size Z w') := Lib.hid fun W h => (HPM.out W (UP.out W h)).mono fun e w' ⟨h1, h2⟩ => ⟨h1, h.trans (h2.mono h.size)⟩
      have DRM : Hid (∀ W, Below Z.heap.size Z W → Calls Try.prog 10 #[.agg #[.int .i64 k, .int .i64 n, .string t, lv]] W fun e w' => e = .returned (.bool b1) ∧ Below Z.heap.size Z w') := Lib.hid fun W h => (HRM.out W (UP.out W h)).mono fun e w' ⟨h1, h2⟩ => ⟨h1, h.trans (h2.mono h.size)⟩
      have DPF : Hid (∀ W, Below Z.heap.size Z W → Calls Try.prog 11 #[.agg #[.int .i64 k, .int .i64 n, .string t, lv]] W fun e w' => e = .returned (.bool b2) ∧ Below Z.heap.size Z w') := Lib.hid fun W h => (HPF.out W (UP.out W h)).mono fun e w' ⟨h1, h2⟩ => ⟨h1, h.trans (h2.mono h.size)⟩
      have DRF : Hid (∀ W, Below Z.heap.size Z W → Calls Try.prog 12 #[.agg #[.int .i64 k, .int .i64 n, .string t, lv]] W fun e w' => e = .returned (.bool b2) ∧ Below Z.heap.size Z w') := Lib.hid fun W h => (HRF.out W (UP.out W h)).mono fun e w' ⟨h1, h2⟩ => ⟨h1, h.trans (h2.mono h.size)⟩
      have DPC : Hid (∀ W, Below Z.heap.size Z W → Calls Try.prog 13 #[.agg #[.int .i64 k, .int .i64 n, .string t, lv]] W fun e w' => e = .returned (.int .i64 (m : Int)) ∧ Below Z.heap.size Z w') := Lib.hid fun W h => (HPC.out W (UP.out W h)).mono fun e w' ⟨h1, h2⟩ => ⟨h1, h.trans (h2.mono h.size)⟩
      have DRC : Hid (∀ W, Below Z.heap.size Z W → Calls Try.prog 14 #[.agg #[.int .i64 k, .int .i64 n, .string t, lv]] W fun e w' => e = .returned (.int .i64 (m : Int)) ∧ Below Z.heap.size Z w') := Lib.hid fun W h => (HRC.out W (UP.out W h)).mono fun e w' ⟨h1, h2⟩ => ⟨h1, h.trans (h2.mono h.size)⟩
      have q1 : (b1 == b1) = true := beq_self_eq_true _
      have q2 : (b2 == b2) = true := beq_self_eq_true _
      have q4 : ((m : Int) == (m : Int)) = true := beq_self_eq_true _
      clear HF0 HT HPM HRM HPF HRF HPC HRC hZ hbW
      go_enter Try.func3, Try.ntmps3
      go_wp2_with fail
      refine (DF.out _ HB0.out).mono ?_
      rintro e w2 ⟨rfl, ht⟩
      have HB2 := Lib.hid ht
      obtain ⟨⟨d0, d1, d2, d3⟩, -⟩ := CC.out _ ht
      clear ht
      go_wp2_with fail
      have HBd : Hid (Below Z.heap.size Z w2.drew) := Lib.hid (Below.drew HB2.out)
      clear HB0
      go_region_held3 (fun w' => (w'.cell? ⟨w.heap.size, 0, none⟩ = some (.int .i64 k) ∧ w'.cell? ⟨w.heap.size, 1, none⟩ = some (.int .i64 n) ∧ w'.cell? ⟨w.heap.size, 2, none⟩ = some (.string t) ∧ w'.cell? ⟨w.heap.size, 3, none⟩ = some lv) ∧ Hid (Below Z.heap.size Z w')) (first | exact CC.out _ ht | exact CC.out _ HBd.out) (first
        | (go_at_call 8; refine (DT.out _ HBd.out).mono ?_; rintro e w3 ⟨rfl, ht⟩)
        | (go_at_call 9; refine (DPM.out _ ht).mono ?_; rintro e w3 ⟨rfl, ht⟩)
        | (go_at_call 10; refine (DRM.out _ ht).mono ?_; rintro e w3 ⟨rfl, ht⟩)
        | (go_at_call 11; refine (DPF.out _ ht).mono ?_; rintro e w3 ⟨rfl, ht⟩)
        | (go_at_call 12; refine (DRF.out _ ht).mono ?_; rintro e w3 ⟨rfl, ht⟩)
        | (go_at_call 13; refine (DPC.out _ ht).mono ?_; rintro e w3 ⟨rfl, ht⟩)
        | (go_at_call 14; refine (DRC.out _ ht).mono ?_; rintro e w3 ⟨rfl, ht⟩))
      have HB9 : Hid (Below w.heap.size w w3) := Lib.hid (UP.out _ ht)
      clear ht
      go_wp2_with fail
      go_ret
      exact ⟨rfl, HB9.out⟩
set_option maxRecDepth 100000 in
theorem lifted (os : Os) (started : os.Started) (H : Type) (enc : TypeId × Value → H) :
    ReturnsInHanded {} Try.checked os 3 .any (Rows.docAsksSpec.pre6 enc Try.prog Try.f3 Rows.docAsksRow.domain false) (Rows.docAsksSpec.post enc Try.prog Try.f3 false true false false) := by
  refine returnsInHanded_of_change (C := Try.checked) ownKnobNone started (by kernel_rfl) Try.func3
    (ChangeSpec.witness6 (enc := enc) (C := Try.checked) false ⟨#[], #[.agg #[.int .i64 0, .int .i64 0, .string ByteArray.empty, .slice none 0 0]], []⟩ 8 (by kernel_rfl) (by kernel_rfl) (by kernel_rfl) (by kernel_rfl)) ?_
  intro W base args ds gs before hval0 hW hcnd _
  have hval : ∀ (j : Nat) t v, Try.f3.params[j]? = some t → args[j]? = some v → Value.okWide Try.prog W .any base t v := hval0
  have hW' := hW
  obtain ⟨p, q, hA0, hV, rfl, hfz, hnd⟩ := hW
  have hA : DataW.TrodAll enc Try.prog W 0 (fun _ => true) true Try.f3.params.toList args.toList ds p := hA0
  rw [Try.params3] at hA hval
  obtain ⟨v0, vs0, d0, ds0, p0, q0, hargs, rfl, rfl, h0, r0⟩ := trodAll_cons hA
  obtain ⟨rfl, rfl, rfl⟩ := trodAll_nil r0
  obtain rfl : args = #[v0] := by cases args; simp_all
  obtain ⟨rfl, rfl⟩ := trodVars_none hV
  have k0 := h0
  have lt0 : ∀ x ∈ p0, x.block < W.heap.size := by obtain ⟨m, hm⟩ := k0; exact DataW.trod_lt m _ _ _ hm
  obtain ⟨c0, n0, rfl, g0⟩ := open_doc (hval 0 24 v0 rfl rfl) h0
  clear hA0 hval0
  refine (walk c0 n0 W g0).mono fun e W' ⟨he, bel⟩ => ?_
  subst he
  exact ⟨_, rfl, _, _, _, [], _, [], hW', trodAll_mk1 (shut_bool Try.underlying4 _), (trodAll_cons_mk (Below.trod laidOutP (by kernel_rfl) (of_decide_eq_true (by kernel_rfl)) k0 bel lt0) trodAll_mk0), rfl, bel.frame _, fun h => by cases h⟩
theorem over : Rows.DocAsksSaid :=
  OpenClaim.holds_of_wide 3 Try.f3 rfl rfl rfl rfl rfl rfl rfl ⟨rfl, rfl, rfl, rfl, rfl⟩ rfl rfl rfl rfl rfl (by kernel_rfl) Try.func3 (by kernel_rfl)
    (of_decide_eq_true (by kernel_rfl)) (by unfold Func.isWrapper; first | (rw [if_pos (by decide +kernel)]; kernel_rfl) | (rw [if_neg (by decide +kernel)]; exact ⟨rfl, rfl⟩))
    (fun os started H enc _ => lifted os started H enc)
/-- THE STATEMENT. -/
theorem proved : Rows.DocAsksSaid := over
#print axioms proved
end Go.Proofs.Ytdhadeeajgoedab.docAsks
