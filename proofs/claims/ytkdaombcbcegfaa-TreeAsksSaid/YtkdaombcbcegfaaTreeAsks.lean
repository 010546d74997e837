/-
  What is the same, like, counted, noted and forced of trees is what the document says (promises 10.1, 10.2): for every two trees the statement TreeAsks returns true. No condition.
-/
import Derived.Test.YtkdaombcbcegfaaBase
import Derived.Test.YtkdaombcbcegfaaNode
import Derived.Test.YtkdaombcbcegfaaTreeTold
import Derived.Test.YtkdaombcbcegfaaTreeFewW
import Derived.Test.YtkdaombcbcegfaaLawTexts
import Derived.Deep.RegionHeld3
namespace Go.Proofs.Ytkdaombcbcegfaa.treeAsks
open Go.ChangeShapes Go.WideShapes Go.ChangeAt Go.RowKit Go.PlainAid

set_option maxRecDepth 100000 in
set_option maxHeartbeats 4000000 in
theorem walk_not {k : Int} {t : ByteArray} {lv nv tv : Value} {br bl : Bool} {k2 : Int} {t2 : ByteArray} {lv2 nv2 tv2 : Value} {br2 bl2 : Bool} (w : World) (fa fb : Bool) (h : (fa && fb) = false)
    (HFA : Hid (∀ W, Below w.heap.size w W → Calls Try.prog 10 #[.agg #[.int .i64 k, .string t, lv, .bool br, .bool bl, nv, tv]] W fun e w' => e = .returned (.bool fa) ∧ Below W.heap.size W w'))
    (HFB : Hid (∀ W, Below w.heap.size w W → Calls Try.prog 10 #[.agg #[.int .i64 k2, .string t2, lv2, .bool br2, .bool bl2, nv2, tv2]] W fun e w' => e = .returned (.bool fb) ∧ Below W.heap.size W w')) :
    Calls Try.prog 4 #[.agg #[.int .i64 k, .string t, lv, .bool br, .bool bl, nv, tv], .agg #[.int .i64 k2, .string t2, lv2, .bool br2, .bool bl2, nv2, tv2]] w fun e w' => e = .returned (.bool true) ∧ Below w.heap.size w w' := by
  obtain ⟨Z, hZ⟩ : ∃ Z, Z = ((w.alloc (.cells #[.int .i64 k, .string t, lv, .bool br, .bool bl, nv, tv] 26)).alloc (.cells #[.int .i64 k2, .string t2, lv2, .bool br2, .bool bl2, nv2, tv2] 26)) := ⟨_, rfl⟩
  have hbW : Below w.heap.size w Z := by rw [hZ]; exact below2 _ _ _
  have HB0 : Hid (Below Z.heap.size Z ((w.alloc (.cells #[.int .i64 k, .string t, lv, .bool br, .bool bl, nv, tv] 26)).alloc (.cells #[.int .i64 k2, .string t2, lv2, .bool br2, .bool bl2, nv2, tv2] 26))) := Lib.hid (by rw [← hZ]; exact Below.refl _ _)
  have HC := Lib.hid (fun W (hb : Below Z.heap.size Z W) => nd2_cells (by rw [hZ] at hb; exact hb))
  have UP := Lib.hid (fun W (h : Below Z.heap.size Z W) => hbW.trans (h.mono hbW.size))
  clear hZ hbW
  cases fa
  · clear h HFB
    go_enter Try.func4, Try.ntmps4
    go_wp2_with fail
    refine (HFA.out _ (UP.out _ HB0.out)).mono ?_
    rintro e w1 ⟨rfl, hb1⟩
    have HB1 : Hid (Below Z.heap.size Z w1) := Lib.hid (HB0.out.trans (hb1.mono HB0.out.size))
    obtain ⟨⟨d0, d1, d2, d3, d4, d5, d6⟩, ⟨e0, e1, e2, e3, e4, e5, e6⟩⟩ := HC.out _ HB1.out
    clear hb1
    go_wp2_with fail
    refine (told10_any _).mono ?_
    rintro e w9 ⟨rfl, hb9⟩
    have HB9 : Hid (Below w.heap.size w w9) := Lib.hid (UP.out _ (HB1.out.trans (hb9.mono HB1.out.size)))
    clear hb9
    go_wp2_with fail
    go_ret
    exact ⟨rfl, HB9.out⟩
  · obtain rfl : fb = false := by simpa using h
    clear h
    go_enter Try.func4, Try.ntmps4
    go_wp2_with fail
    refine (HFA.out _ (UP.out _ HB0.out)).mono ?_
    rintro e w1 ⟨rfl, hb1⟩
    have HB1 : Hid (Below Z.heap.size Z w1) := Lib.hid (HB0.out.trans (hb1.mono HB0.out.size))
    obtain ⟨⟨d0, d1, d2, d3, d4, d5, d6⟩, ⟨e0, e1, e2, e3, e4, e5, e6⟩⟩ := HC.out _ HB1.out
    clear hb1
    go_wp2_with fail
    refine (HFB.out _ (UP.out _ HB1.out)).mono ?_
    rintro e w2 ⟨rfl, hb2⟩
    have HB2 : Hid (Below Z.heap.size Z w2) := Lib.hid (HB1.out.trans (hb2.mono HB1.out.size))
    obtain ⟨⟨d0, d1, d2, d3, d4, d5, d6⟩, ⟨e0, e1, e2, e3, e4, e5, e6⟩⟩ := HC.out _ HB2.out
    clear hb2
    go_wp2_with fail
    refine (told10_any _).mono ?_
    rintro e w9 ⟨rfl, hb9⟩
    have HB9 : Hid (Below w.heap.size w w9) := Lib.hid (UP.out _ (HB2.out.trans (hb9.mono HB2.out.size)))
    clear hb9
    go_wp2_with fail
    go_ret
    exact ⟨rfl, HB9.out⟩
set_option maxRecDepth 100000 in
set_option maxHeartbeats 8000000 in
theorem walk_few {k : Int} {t : ByteArray} {lv nv tv : Value} {br bl : Bool} {k2 : Int} {t2 : ByteArray} {lv2 nv2 tv2 : Value} {br2 bl2 : Bool} (w : World) (b1 b2 b3 : Bool) (m : Nat) (L1 L2 : List ByteArray) (hL1 : L1.length ≤ 1048576) (hL2 : L2.length ≤ 1048576)
    (HFA : Hid (∀ W, Below w.heap.size w W → Calls Try.prog 10 #[.agg #[.int .i64 k, .string t, lv, .bool br, .bool bl, nv, tv]] W fun e w' => e = .returned (.bool true) ∧ Below W.heap.size W w'))
    (HFB : Hid (∀ W, Below w.heap.size w W → Calls Try.prog 10 #[.agg #[.int .i64 k2, .string t2, lv2, .bool br2, .bool bl2, nv2, tv2]] W fun e w' => e = .returned (.bool true) ∧ Below W.heap.size W w'))
    (HPS : Hid (∀ W, Below w.heap.size w W → Calls Try.prog 11 #[.agg #[.int .i64 k, .string t, lv, .bool br, .bool bl, nv, tv], .agg #[.int .i64 k2, .string t2, lv2, .bool br2, .bool bl2, nv2, tv2]] W fun e w' => e = .returned (.bool b1) ∧ Below W.heap.size W w'))
    (HRS : Hid (∀ W, Below w.heap.size w W → Calls Try.prog 12 #[.agg #[.int .i64 k, .string t, lv, .bool br, .bool bl, nv, tv], .agg #[.int .i64 k2, .string t2, lv2, .bool br2, .bool bl2, nv2, tv2]] W fun e w' => e = .returned (.bool b1) ∧ Below W.heap.size W w'))
    (HPL : Hid (∀ W, Below w.heap.size w W → Calls Try.prog 13 #[.agg #[.int .i64 k, .string t, lv, .bool br, .bool bl, nv, tv], .agg #[.int .i64 k2, .string t2, lv2, .bool br2, .bool bl2, nv2, tv2]] W fun e w' => e = .returned (.bool b2) ∧ Below W.heap.size W w'))
    (HRL : Hid (∀ W, Below w.heap.size w W → Calls Try.prog 14 #[.agg #[.int .i64 k, .string t, lv, .bool br, .bool bl, nv, tv], .agg #[.int .i64 k2, .string t2, lv2, .bool br2, .bool bl2, nv2, tv2]] W fun e w' => e = .returned (.bool b2) ∧ Below W.heap.size W w'))
    (HPC : Hid (∀ W, Below w.heap.size w W → Calls Try.prog 15 #[.agg #[.int .i64 k, .string t, lv, .bool br, .bool bl, nv, tv]] W fun e w' => e = .returned (.int .i64 (m : Int)) ∧ Below W.heap.size W w'))
    (HRC : Hid (∀ W, Below w.heap.size w W → Calls Try.prog 16 #[.agg #[.int .i64 k, .string t, lv, .bool br, .bool bl, nv, tv]] W fun e w' => e = .returned (.int .i64 (m : Int)) ∧ Below W.heap.size W w'))
    (HPF : Hid (∀ W, Below w.heap.size w W → Calls Try.prog 20 #[.agg #[.int .i64 k, .string t, lv, .bool br, .bool bl, nv, tv]] W fun e w' => e = .returned (.bool b3) ∧ Below W.heap.size W w'))
    (HRF : Hid (∀ W, Below w.heap.size w W → Calls Try.prog 21 #[.agg #[.int .i64 k, .string t, lv, .bool br, .bool bl, nv, tv]] W fun e w' => e = .returned (.bool b3) ∧ Below W.heap.size W w'))
    (HPN : Hid (∀ W, Below w.heap.size w W → Calls Try.prog 9 #[.agg #[.int .i64 k, .string t, lv, .bool br, .bool bl, nv, tv]] W fun e w' => StsAre W L1 e w'))
    (HRN : Hid (∀ W, Below w.heap.size w W → Calls Try.prog 18 #[.agg #[.int .i64 k, .string t, lv, .bool br, .bool bl, nv, tv]] W fun e w' => StsAre W L1 e w'))
    (HPI : Hid (∀ W, Below w.heap.size w W → Calls Try.prog 8 #[.agg #[.int .i64 k, .string t, lv, .bool br, .bool bl, nv, tv]] W fun e w' => StsAre W L2 e w'))
    (HRI : Hid (∀ W, Below w.heap.size w W → Calls Try.prog 19 #[.agg #[.int .i64 k, .string t, lv, .bool br, .bool bl, nv, tv]] W fun e w' => StsAre W L2 e w')) :
    Calls Try.prog 4 #[.agg #[.int .i64 k, .string t, lv, .bool br, .bool bl, nv, tv], .agg #[.int .i64 k2, .string t2, lv2, .bool br2, .bool bl2, nv2, tv2]] w fun e w' => e = .returned (.bool true) ∧ Below w.heap.size w w' := by
  obtain ⟨Z, hZ⟩ : ∃ Z, Z = ((w.alloc (.cells #[.int .i64 k, .string t, lv, .bool br, .bool bl, nv, tv] 26)).alloc (.cells #[.int .i64 k2, .string t2, lv2, .bool br2, .bool bl2, nv2, tv2] 26)) := ⟨_, rfl⟩
  have hbW : Below w.heap.size w Z := by rw [hZ]; exact below2 _ _ _
  have HB0 : Hid (Below Z.heap.size Z ((w.alloc (.cells #[.int .i64 k, .string t, lv, .bool br, .bool bl, nv, tv] 26)).alloc (.cells #[.int .i64 k2, .string t2, lv2, .bool br2, .bool bl2, nv2, tv2] 26))) := Lib.hid (by rw [← hZ]; exact Below.refl _ _)
  have HC := Lib.hid (fun W (hb : Below Z.heap.size Z W) => nd2_cells (by rw [hZ] at hb; exact hb))
  have UP := Lib.hid (fun W (h : Below Z.heap.size Z W) => hbW.trans (h.mono hbW.size))
  clear hZ hbW
  have DPS : Hid (∀ W, Below Z.heap.size Z W → Calls Try.prog 11 #[.agg #[.int .i64 k, .string t, lv, .bool br, .bool bl, nv, tv], .agg #[.int .i64 k2, .string t2, lv2, .bool br2, .bool bl2, nv2, tv2]] W fun e w' => e = .returned (.bool b1) ∧ Below Z.heap.size Z w') := Lib.hid fun W h => (HPS.out W (UP.out W h)).mono fun e w' ⟨h1, h2⟩ => ⟨h1, h.trans (h2.mono h.size)⟩
  have DRS : Hid (∀ W, Below Z.heap.size Z W → Calls Try.prog 12 #[.agg #[.int .i64 k, .string t, lv, .bool br, .bool bl, nv, tv], .agg #[.int .i64 k2, .string t2, lv2, .bool br2, .bool bl2, nv2, tv2]] W fun e w' => e = .returned (.bool b1) ∧ Below Z.heap.size Z w') := Lib.hid fun W h => (HRS.out W (UP.out W h)).mono fun e w' ⟨h1, h2⟩ => ⟨h1, h.trans (h2.mono h.size)⟩
  have DPL : Hid (∀ W, Below Z.heap.size Z W → Calls Try.prog 13 #[.agg #[.int .i64 k, .string t, lv, .bool br, .bool bl, nv, tv], .agg #[.int .i64 k2, .string t2, lv2, .bool br2, .bool bl2, nv2, tv2]] W fun e w' => e = .returned (.bool b2) ∧ Below Z.heap.size Z w') := Lib.hid fun W h => (HPL.out W (UP.out W h)).mono fun e w' ⟨h1, h2⟩ => ⟨h1, h.trans (h2.mono h.size)⟩
  have DRL : Hid (∀ W, Below Z.heap.size Z W → Calls Try.prog 14 #[.agg #[.int .i64 k, .string t, lv, .bool br, .bool bl, nv, tv], .agg #[.int .i64 k2, .string t2, lv2, .bool br2, .bool bl2, nv2, tv2]] W fun e w' => e = .returned (.bool b2) ∧ Below Z.heap.size Z w') := Lib.hid fun W h => (HRL.out W (UP.out W h)).mono fun e w' ⟨h1, h2⟩ => ⟨h1, h.trans (h2.mono h.size)⟩
  have DPC : Hid (∀ W, Below Z.heap.size Z W → Calls Try.prog 15 #[.agg #[.int .i64 k, .string t, lv, .bool br, .bool bl, nv, tv]] W fun e w' => e = .returned (.int .i64 (m : Int)) ∧ Below Z.heap.size Z w') := Lib.hid fun W h => (HPC.out W (UP.out W h)).mono fun e w' ⟨h1, h2⟩ => ⟨h1, h.trans (h2.mono h.size)⟩
  have DRC : Hid (∀ W, Below Z.heap.size Z W → Calls Try.prog 16 #[.agg #[.int .i64 k, .string t, lv, .bool br, .bool bl, nv, tv]] W fun e w' => e = .returned (.int .i64 (m : Int)) ∧ Below Z.heap.size Z w') := Lib.hid fun W h => (HRC.out W (UP.out W h)).mono fun e w' ⟨h1, h2⟩ => ⟨h1, h.trans (h2.mono h.size)⟩
  have DPF : Hid (∀ W, Below Z.heap.size Z W → Calls Try.prog 20 #[.agg #[.int .i64 k, .string t, lv, .bool br, .bool bl, nv, tv]] W fun e w' => e = .returned (.bool b3) ∧ Below Z.heap.size Z w') := Lib.hid fun W h => (HPF.out W (UP.out W h)).mono fun e w' ⟨h1, h2⟩ => ⟨h1, h.trans (h2.mono h.size)⟩
  have DRF : Hid (∀ W, Below Z.heap.size Z W → Calls Try.prog 21 #[.agg #[.int .i64 k, .string t, lv, .bool br, .bool bl, nv, tv]] W fun e w' => e = .returned (.bool b3) ∧ Below Z.heap.size Z w') := Lib.hid fun W h => (HRF.out W (UP.out W h)).mono fun e w' ⟨h1, h2⟩ => ⟨h1, h.trans (h2.mono h.size)⟩
  have DPN : Hid (∀ W, Below Z.heap.size Z W → Calls Try.prog 9 #[.agg #[.int .i64 k, .string t, lv, .bool br, .bool bl, nv, tv]] W fun e w' => ∃ v, e = .returned v ∧ Below Z.heap.size Z w' ∧ Below W.heap.size W w' ∧ ∀ W', Below w'.heap.size w' W' → StAt W' v L1) := Lib.hid fun W h => (HPN.out W (UP.out W h)).mono fun e w' ⟨v, h1, h2, h3⟩ => ⟨v, h1, h.trans (h3.mono h.size), h3, fun W' h' => (txs_st h2).below h'⟩
  have DRN : Hid (∀ W, Below Z.heap.size Z W → Calls Try.prog 18 #[.agg #[.int .i64 k, .string t, lv, .bool br, .bool bl, nv, tv]] W fun e w' => ∃ v, e = .returned v ∧ Below Z.heap.size Z w' ∧ Below W.heap.size W w' ∧ ∀ W', Below w'.heap.size w' W' → StAt W' v L1) := Lib.hid fun W h => (HRN.out W (UP.out W h)).mono fun e w' ⟨v, h1, h2, h3⟩ => ⟨v, h1, h.trans (h3.mono h.size), h3, fun W' h' => (txs_st h2).below h'⟩
  have DPI : Hid (∀ W, Below Z.heap.size Z W → Calls Try.prog 8 #[.agg #[.int .i64 k, .string t, lv, .bool br, .bool bl, nv, tv]] W fun e w' => ∃ v, e = .returned v ∧ Below Z.heap.size Z w' ∧ Below W.heap.size W w' ∧ ∀ W', Below w'.heap.size w' W' → StAt W' v L2) := Lib.hid fun W h => (HPI.out W (UP.out W h)).mono fun e w' ⟨v, h1, h2, h3⟩ => ⟨v, h1, h.trans (h3.mono h.size), h3, fun W' h' => (txs_st h2).below h'⟩
  have DRI : Hid (∀ W, Below Z.heap.size Z W → Calls Try.prog 19 #[.agg #[.int .i64 k, .string t, lv, .bool br, .bool bl, nv, tv]] W fun e w' => ∃ v, e = .returned v ∧ Below Z.heap.size Z w' ∧ Below W.heap.size W w' ∧ ∀ W', Below w'.heap.size w' W' → StAt W' v L2) := Lib.hid fun W h => (HRI.out W (UP.out W h)).mono fun e w' ⟨v, h1, h2, h3⟩ => ⟨v, h1, h.trans (h3.mono h.size), h3, fun W' h' => (txs_st h2).below h'⟩
  have DT : Hid (∀ W, Below Z.heap.size Z W → Calls Try.prog 7 #[] W fun e w' => e = .returned (.bool true) ∧ Below Z.heap.size Z w') := Lib.hid fun W h => (told10_any W).mono fun e w' ⟨h1, h2⟩ => ⟨h1, h.trans (h2.mono h.size)⟩
  have DX1 : Hid (∀ v v' W, StAt W v L1 → StAt W v' L1 → Below Z.heap.size Z W → Calls Try.prog 17 #[v, v'] W fun e w' => e = .returned (.bool true) ∧ Below Z.heap.size Z w') := Lib.hid fun v v' W g1 g2 h => by
    have := ltexts_any L1 L1 hL1 v v' W g1 g2
    rw [decide_eq_true rfl] at this
    exact this.mono fun e w' ⟨h1, h2⟩ => ⟨h1, h.trans (h2.mono h.size)⟩
  have DX2 : Hid (∀ v v' W, StAt W v L2 → StAt W v' L2 → Below Z.heap.size Z W → Calls Try.prog 17 #[v, v'] W fun e w' => e = .returned (.bool true) ∧ Below Z.heap.size Z w') := Lib.hid fun v v' W g1 g2 h => by
    have := ltexts_any L2 L2 hL2 v v' W g1 g2
    rw [decide_eq_true rfl] at this
    exact this.mono fun e w' ⟨h1, h2⟩ => ⟨h1, h.trans (h2.mono h.size)⟩
  have CC := Lib.hid (fun W (hb : Below Z.heap.size Z W) => (⟨(HC.out W hb).1, (HC.out W hb).2, Lib.hid hb⟩ : (W.cell? ⟨w.heap.size, 0, none⟩ = some (.int .i64 k) ∧ W.cell? ⟨w.heap.size, 1, none⟩ = some (.string t) ∧ W.cell? ⟨w.heap.size, 2, none⟩ = some lv ∧ W.cell? ⟨w.heap.size, 3, none⟩ = some (.bool br) ∧ W.cell? ⟨w.heap.size, 4, none⟩ = some (.bool bl) ∧ W.cell? ⟨w.heap.size, 5, none⟩ = some nv ∧ W.cell? ⟨w.heap.size, 6, none⟩ = some tv) ∧ (W.cell? ⟨w.heap.size + 1, 0, none⟩ = some (.int .i64 k2) ∧ W.cell? ⟨w.heap.size + 1, 1, none⟩ = some (.string t2) ∧ W.cell? ⟨w.heap.size + 1, 2, none⟩ = some lv2 ∧ W.cell? ⟨w.heap.size + 1, 3, none⟩ = some (.bool br2) ∧ W.cell? ⟨w.heap.size + 1, 4, none⟩ = some (.bool bl2) ∧ W.cell? ⟨w.heap.size + 1, 5, none⟩ = some nv2 ∧ W.cell? ⟨w.heap.size + 1, 6, none⟩ = some tv2) ∧ Hid (Below Z.heap.size Z W)))
  have q1 : (b1 == b1) = true := beq_self_eq_true _
  have q2 : (b2 == b2) = true := beq_self_eq_true _
  have q3 : (b3 == b3) = true := beq_self_eq_true _
  have q4 : ((m : Int) == (m : Int)) = true := beq_self_eq_true _
  clear HPS HRS HPL HRL HPC HRC HPF HRF HPN HRN HPI HRI
  go_enter Try.func4, Try.ntmps4
  go_wp2_with fail
  refine (HFA.out _ (UP.out _ HB0.out)).mono ?_
  rintro e w1 ⟨rfl, hb1⟩
  have HB1 : Hid (Below Z.heap.size Z w1) := Lib.hid (HB0.out.trans (hb1.mono HB0.out.size))
  obtain ⟨⟨d0, d1, d2, d3, d4, d5, d6⟩, ⟨e0, e1, e2, e3, e4, e5, e6⟩⟩ := HC.out _ HB1.out
  clear hb1
  go_wp2_with fail
  refine (HFB.out _ (UP.out _ HB1.out)).mono ?_
  rintro e w2 ⟨rfl, hb2⟩
  have HB2 : Hid (Below Z.heap.size Z w2) := Lib.hid (HB1.out.trans (hb2.mono HB1.out.size))
  obtain ⟨⟨d0, d1, d2, d3, d4, d5, d6⟩, ⟨e0, e1, e2, e3, e4, e5, e6⟩⟩ := HC.out _ HB2.out
  clear hb2
  go_wp2_with fail
  have HBd : Hid (Below Z.heap.size Z w2.drew) := Lib.hid (Below.drew HB2.out)
  clear HB0 HB1 HFA HFB
  go_region_held3 (fun w' => (w'.cell? ⟨w.heap.size, 0, none⟩ = some (.int .i64 k) ∧ w'.cell? ⟨w.heap.size, 1, none⟩ = some (.string t) ∧ w'.cell? ⟨w.heap.size, 2, none⟩ = some lv ∧ w'.cell? ⟨w.heap.size, 3, none⟩ = some (.bool br) ∧ w'.cell? ⟨w.heap.size, 4, none⟩ = some (.bool bl) ∧ w'.cell? ⟨w.heap.size, 5, none⟩ = some nv ∧ w'.cell? ⟨w.heap.size, 6, none⟩ = some tv) ∧ (w'.cell? ⟨w.heap.size + 1, 0, none⟩ = some (.int .i64 k2) ∧ w'.cell? ⟨w.heap.size + 1, 1, none⟩ = some (.string t2) ∧ w'.cell? ⟨w.heap.size + 1, 2, none⟩ = some lv2 ∧ w'.cell? ⟨w.heap.size + 1, 3, none⟩ = some (.bool br2) ∧ w'.cell? ⟨w.heap.size + 1, 4, none⟩ = some (.bool bl2) ∧ w'.cell? ⟨w.heap.size + 1, 5, none⟩ = some nv2 ∧ w'.cell? ⟨w.heap.size + 1, 6, none⟩ = some tv2) ∧ Hid (Below Z.heap.size Z w')) (first | exact CC.out _ ht | exact CC.out _ HBd.out) (first
    | (go_at_call 7; refine (DT.out _ HBd.out).mono ?_; rintro e w3 ⟨rfl, ht⟩)
    | (go_at_call 11; refine (DPS.out _ ht).mono ?_; rintro e w3 ⟨rfl, ht⟩)
    | (go_at_call 12; refine (DRS.out _ ht).mono ?_; rintro e w3 ⟨rfl, ht⟩)
    | (go_at_call 13; refine (DPL.out _ ht).mono ?_; rintro e w3 ⟨rfl, ht⟩)
    | (go_at_call 14; refine (DRL.out _ ht).mono ?_; rintro e w3 ⟨rfl, ht⟩)
    | (go_at_call 15; refine (DPC.out _ ht).mono ?_; rintro e w3 ⟨rfl, ht⟩)
    | (go_at_call 16; refine (DRC.out _ ht).mono ?_; rintro e w3 ⟨rfl, ht⟩)
    | (go_at_call 20; refine (DPF.out _ ht).mono ?_; rintro e w3 ⟨rfl, ht⟩)
    | (go_at_call 21; refine (DRF.out _ ht).mono ?_; rintro e w3 ⟨rfl, ht⟩)
    | (go_at_call 9; refine (DPN.out _ ht).mono ?_; rintro e wA ⟨vA, rfl, ht, hbA, sA⟩)
    | (go_at_call 18; refine (DRN.out _ ht).mono ?_; rintro e wB ⟨vB, rfl, ht, hbB, sB⟩)
    | (go_at_call 8; refine (DPI.out _ ht).mono ?_; rintro e wC ⟨vC, rfl, ht, hbC, sC⟩)
    | (go_at_call 19; refine (DRI.out _ ht).mono ?_; rintro e wD ⟨vD, rfl, ht, hbD, sD⟩)
    | (go_at_call 17; refine (DX2.out _ _ _ (sC _ hbD) (sD _ (Below.refl _ _)) ht).mono ?_; rintro e w3 ⟨rfl, ht⟩)
    | (go_at_call 17; refine (DX1.out _ _ _ (sA _ hbB) (sB _ (Below.refl _ _)) ht).mono ?_; rintro e w3 ⟨rfl, ht⟩))
  have HB9 : Hid (Below w.heap.size w w3) := Lib.hid (UP.out _ ht)
  clear ht
  go_wp2_with fail
  go_ret
  exact ⟨rfl, HB9.out⟩
theorem walk (c0 : List Value) (n0 : Nd) (c1 : List Value) (n1 : Nd) (w : World) (g0 : NdAt w c0 n0) (s0 : Szd n0) (g1 : NdAt w c1 n1) (_ : Szd n1) :
    Calls Try.prog 4 #[.agg c0.toArray, .agg c1.toArray] w fun e w' => e = .returned (.bool true) ∧ Below w.heap.size w w' := by
  have HFA : Hid (∀ W, Below w.heap.size w W → Calls Try.prog 10 #[.agg c0.toArray] W fun e w' => e = .returned (.bool (fewB n0)) ∧ Below W.heap.size W w') := Lib.hid fun W hb => fewB_any n0 c0 W (g0.bel hb)
  have HFB : Hid (∀ W, Below w.heap.size w W → Calls Try.prog 10 #[.agg c1.toArray] W fun e w' => e = .returned (.bool (fewB n1)) ∧ Below W.heap.size W w') := Lib.hid fun W hb => fewB_any n1 c1 W (g1.bel hb)
  cases hf : (fewB n0 && fewB n1)
  · cases n0; cases n1
    obtain ⟨_, _, _, _, rfl, -⟩ := g0.inv
    obtain ⟨_, _, _, _, rfl, -⟩ := g1.inv
    exact walk_not w _ _ hf HFA HFB
  · simp only [Bool.and_eq_true] at hf
    rw [hf.1] at HFA
    rw [hf.2] at HFB
    have k0 := fewB_okT hf.1
    have k1 := fewB_okT hf.2
    have g0' := g0
    have g1' := g1
    cases n0; cases n1
    obtain ⟨_, _, _, _, rfl, -⟩ := g0'.inv
    obtain ⟨_, _, _, _, rfl, -⟩ := g1'.inv
    exact walk_few w _ _ _ _ _ _ k0.nts k0.lts HFA HFB
      (Lib.hid fun W hb => psame_any _ _ _ _ W (g0.bel hb) (g1.bel hb) k0 k1) (Lib.hid fun W hb => rsame_any _ _ _ _ W (g0.bel hb) (g1.bel hb) k0)
      (Lib.hid fun W hb => plike_any _ _ _ _ W (g0.bel hb) (g1.bel hb) k0 k1) (Lib.hid fun W hb => rlikes_any _ _ _ _ W (g0.bel hb) (g1.bel hb) k0)
      (Lib.hid fun W hb => ptcount_any _ _ W (g0.bel hb) k0) (Lib.hid fun W hb => rtcount_any 5000 (by omega) _ k0.1 _ W (g0.bel hb))
      (Lib.hid fun W hb => pforced_any _ _ W (g0.bel hb) k0) (Lib.hid fun W hb => rforced_any 5000 (by omega) _ k0.1 _ W (g0.bel hb))
      (Lib.hid fun W hb => pnotes_any _ _ W (g0.bel hb) k0 s0) (Lib.hid fun W hb => rnotes_any 5000 (by omega) _ k0.1 k0.nts _ W (g0.bel hb))
      (Lib.hid fun W hb => plits_any _ _ W (g0.bel hb) k0 s0) (Lib.hid fun W hb => rlits_any 5000 (by omega) _ k0.1 k0.lts _ W (g0.bel hb))
set_option maxRecDepth 100000 in
theorem lifted (os : Os) (started : os.Started) (H : Type) (enc : TypeId × Value → H) :
    ReturnsInHanded {} Try.checked os 4 .any (Rows.treeAsksSpec.pre6 enc Try.prog Try.f4 Rows.treeAsksRow.domain false) (Rows.treeAsksSpec.post enc Try.prog Try.f4 false true false false) := by
  refine returnsInHanded_of_change_sized (C := Try.checked) ownKnobNone started (by kernel_rfl) Try.func4
    (ChangeSpec.witness6 (enc := enc) (C := Try.checked) false ⟨#[], #[.agg #[.int .i64 0, .string ByteArray.empty, .slice none 0 0, .bool false, .bool false, .slice none 0 0, .slice none 0 0], .agg #[.int .i64 0, .string ByteArray.empty, .slice none 0 0, .bool false, .bool false, .slice none 0 0, .slice none 0 0]], []⟩ 8 (by kernel_rfl) (by kernel_rfl) (by kernel_rfl) (by kernel_rfl)) ?_
  intro W base args ds gs before hval0 hW _ hz0 _
  have hval : ∀ (j : Nat) t v, Try.f4.params[j]? = some t → args[j]? = some v → Value.okWide Try.prog W .any base t v := hval0
  have hW' := hW
  obtain ⟨p, q, hA0, hV, rfl, hfz, hnd⟩ := hW
  have hA : DataW.TrodAll enc Try.prog W 0 (fun _ => true) true Try.f4.params.toList args.toList ds p := hA0
  rw [Try.params4] at hA hval
  obtain ⟨v0, vs0, d0, ds0, p0, q0, hargs, rfl, rfl, h0, r0⟩ := trodAll_cons hA
  obtain ⟨v1, vs1, d1, ds1, p1, q1, rfl, rfl, rfl, h1, r1⟩ := trodAll_cons r0
  obtain ⟨rfl, rfl, rfl⟩ := trodAll_nil r1
  obtain rfl : args = #[v0, v1] := by cases args; simp_all
  obtain ⟨rfl, rfl⟩ := trodVars_none hV
  have hz0' : ∀ m ∈ d0.weights Try.prog 26, m ≤ reachBytes := fun m hm => by simpa using List.all_eq_true.1 hz0 m (DataW.weights_mem_each (j := 0) (by rw [Try.params4]; rfl) rfl m hm)
  have hz1' : ∀ m ∈ d1.weights Try.prog 26, m ≤ reachBytes := fun m hm => by simpa using List.all_eq_true.1 hz0 m (DataW.weights_mem_each (j := 1) (by rw [Try.params4]; rfl) rfl m hm)
  have k0 := h0
  have lt0 : ∀ x ∈ p0, x.block < W.heap.size := by obtain ⟨m, hm⟩ := k0; exact DataW.trod_lt m _ _ _ hm
  obtain ⟨c0, n0, rfl, g0, s0⟩ := open_node (hval 0 26 v0 rfl rfl) h0 hz0'
  have k1 := h1
  have lt1 : ∀ x ∈ p1, x.block < W.heap.size := by obtain ⟨m, hm⟩ := k1; exact DataW.trod_lt m _ _ _ hm
  obtain ⟨c1, n1, rfl, g1, s1⟩ := open_node (hval 1 26 v1 rfl rfl) h1 hz1'
  clear hA0 hval0
  refine (walk c0 n0 c1 n1 W g0 s0 g1 s1).mono fun e W' ⟨he, bel⟩ => ?_
  subst he
  exact ⟨_, rfl, _, _, _, [], _, [], hW', trodAll_mk1 (shut_bool Try.underlying4 _), (trodAll_cons_mk (Below.trod laidOutP (by kernel_rfl) (of_decide_eq_true (by kernel_rfl)) k0 bel lt0) (trodAll_cons_mk (Below.trod laidOutP (by kernel_rfl) (of_decide_eq_true (by kernel_rfl)) k1 bel lt1) trodAll_mk0)), rfl, bel.frame _, fun h => by cases h⟩
theorem over : Rows.TreeAsksSaid :=
  OpenClaim.holds_of_wide 4 Try.f4 rfl rfl rfl rfl rfl rfl rfl ⟨rfl, rfl, rfl, rfl, rfl⟩ rfl rfl rfl rfl rfl (by kernel_rfl) Try.func4 (by kernel_rfl)
    (of_decide_eq_true (by kernel_rfl)) (by unfold Func.isWrapper; first | (rw [if_pos (by decide +kernel)]; kernel_rfl) | (rw [if_neg (by decide +kernel)]; exact ⟨rfl, rfl⟩))
    (fun os started H enc _ => lifted os started H enc)
/-- THE STATEMENT. -/
theorem proved : Rows.TreeAsksSaid := over
#print axioms proved
end Go.Proofs.Ytkdaombcbcegfaa.treeAsks
