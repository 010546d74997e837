/-
  What the statements of layer 7 ask of one text each time: it holds.
-/
import Derived.Test.YtlajngjbajabiaaGapBroken
import Derived.Test.YtlajngjbajabiaaRefScans
namespace Go.Proofs.Ytlajngjbajabiaa
open Go.RowKit Go.PlainAid

def t71 : ByteArray := { data := #[102, 40, 91, 123, 49, 125, 93, 41, 10, 10, 46] }
def l71 : List Tk3 := [(1, 0, 1), (9, 1, 2), (9, 2, 3), (9, 3, 4), (3, 4, 5), (9, 5, 6), (9, 6, 7), (9, 7, 8), (10, 10, 11)]
theorem t71_is : scanR t71 = (l71, 0) := by rw [scan_F]; decide +kernel
theorem t71_deep : dl (toks t71 l71) 0 0 = 3 := by decide +kernel
theorem t71_n8 : nls t71 l71 8 = 2 := by decide +kernel
theorem t71_n1 : nls t71 l71 1 = 0 := by decide +kernel
theorem t71_n0 : nls t71 l71 0 = 0 := by decide +kernel
set_option maxRecDepth 100000 in
set_option maxHeartbeats 1000000 in
theorem told7_any (w : World) : Calls Try.prog 7 #[] w fun e w' => e = .returned (.bool true) ∧ Below w.heap.size w w' := by
  have HSC := Lib.hid (fun W => rscan_is { data := #[102, 40, 91, 123, 49, 125, 93, 41, 10, 10, 46] } _ _ t71_is (by decide) W)
  obtain ⟨-, -, hsc⟩ := scan_good t71_is
  have HD := Lib.hid (fun v W h => deep_any v (toks t71 l71) (by decide) W h)
  rw [t71_deep] at HD
  have HB8 := Lib.hid (fun v W h => blankg_any hsc (by decide) (by decide) v 8 W h)
  rw [t71_n8] at HB8
  have HR8 := Lib.hid (fun v W h => broken_any hsc (by decide) (by decide) v 8 W h)
  rw [t71_n8] at HR8
  have HR1 := Lib.hid (fun v W h => broken_any hsc (by decide) (by decide) v 1 W h)
  rw [t71_n1] at HR1
  have HB0 := Lib.hid (fun v W h => blankg_any hsc (by decide) (by decide) v 0 W h)
  rw [t71_n0] at HB0
  have HE := Lib.hid (fun W => end_any7 1 0 { data := #[102] } 1 (by decide) (by decide) W)
  clear hsc
  unfold t71 at HB8 HR8 HR1 HB0
  go_enter Try.func7, Try.ntmps7
  go_wp2_with fail
  refine (HSC.out _).mono ?_
  rintro e w1 ⟨v, rfl, ha1, hb1⟩
  have A1 := Lib.hid (trow_of ha1)
  have B1 := Lib.hid hb1
  obtain ⟨a, cap, rfl, hr⟩ := ha1
  obtain ⟨g, rfl, hg, hc⟩ := hr (by decide)
  have C := Lib.hid (fun W (hb : Below w1.heap.size w1 W) => (⟨(hb.cell (p := ⟨g, 0, none⟩) hg).trans (hc 0 _ rfl).1, ((hb.cell (p := ⟨g, 1, none⟩) hg).trans (hc 0 _ rfl).2.1).trans (congrArg (fun x => some (Value.string x)) (by decide +kernel)), (hb.cell (p := ⟨g, 2, none⟩) hg).trans (hc 0 _ rfl).2.2⟩ : W.cell? ⟨g, 0, none⟩ = some (.int .i64 1) ∧ W.cell? ⟨g, 1, none⟩ = some (.string { data := #[102] }) ∧ W.cell? ⟨g, 2, none⟩ = some (.int .i64 0)))
  clear hb1 hr hc
  have hl : l71.length = 9 := rfl
  rw [hl] at A1 ⊢
  go_wp2_with fail
  refine (HD.out _ _ A1.out).mono ?_
  rintro e w2 ⟨rfl, hb2⟩
  have B2 := Lib.hid hb2
  clear hb2
  go_wp2_with fail
  refine (HB8.out _ _ (A1.out.below B2.out)).mono ?_
  rintro e w3 ⟨rfl, hb3⟩
  have B3 : Hid (Below w1.heap.size w1 w3) := Lib.hid (B2.out.trans (hb3.mono B2.out.size))
  clear hb3 B2
  go_wp2_with fail
  refine (HR8.out _ _ (A1.out.below B3.out)).mono ?_
  rintro e w4 ⟨rfl, hb4⟩
  have B4 : Hid (Below w1.heap.size w1 w4) := Lib.hid (B3.out.trans (hb4.mono B3.out.size))
  clear hb4 B3
  go_wp2_with fail
  refine (HR1.out _ _ (A1.out.below B4.out)).mono ?_
  rintro e w5 ⟨rfl, hb5⟩
  have B5 : Hid (Below w1.heap.size w1 w5) := Lib.hid (B4.out.trans (hb5.mono B4.out.size))
  clear hb5 B4
  go_wp2_with fail
  refine (HB0.out _ _ (A1.out.below B5.out)).mono ?_
  rintro e w6 ⟨rfl, hb6⟩
  have B6 : Hid (Below w1.heap.size w1 w6) := Lib.hid (B5.out.trans (hb6.mono B5.out.size))
  clear hb6 B5
  obtain ⟨c1, c2, c3⟩ := C.out _ B6.out
  go_wp2_with fail
  refine (HE.out _).mono ?_
  rintro e w7 ⟨rfl, hb7⟩
  have B7 : Hid (Below w1.heap.size w1 w7) := Lib.hid (B6.out.trans (hb7.mono B6.out.size))
  clear hb7 B6
  go_wp2_with fail
  go_ret
  exact ⟨rfl, B1.out.trans (B7.out.mono B1.out.size)⟩
end Go.Proofs.Ytlajngjbajabiaa
