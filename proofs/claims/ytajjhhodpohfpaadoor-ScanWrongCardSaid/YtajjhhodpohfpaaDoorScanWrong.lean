/-
  What is no token is none, behind whatever stands ahead (promise 6.2): for every two integers the statement ScanWrong returns true.
-/
import Derived.Test.YtajjhhodpohfpaaDoorScanLaid
import Derived.Test.YtajjhhodpohfpaaDoorCards
import Derived.Test.YtajjhhodpohfpaaDoorTie
import Derived.Test.YtajjhhodpohfpaaDoorBase
import Derived.Test.YtajjhhodpohfpaaDoorScanKindsMath
import Derived.Deep.CutRange
import Derived.Deep.QuietTactic
import Derived.BigQuiet
namespace Go.Proofs.YtajjhhodpohfpaaDoor.scanWrong
open Go.ChangeShapes Go.WideShapes Go.ChangeAt Go.RowKit Go.PlainAid

/-- Some texts lie in a block. -/
def StrsAt (W : World) (g : Nat) (L : List (List UInt8)) : Prop := g < W.heap.size ∧ ∀ k, k < L.length → W.cell? ⟨g, k, none⟩ = some (.string ⟨(L.getD k []).toArray⟩)
theorem strs_at (w : World) (cs : Array Value) (t : TypeId) (L : List (List UInt8)) (h : cs = (L.map fun l => Value.string ⟨l.toArray⟩).toArray) : StrsAt (w.alloc (.cells cs t)) w.heap.size L := ⟨by simp, ls_at w cs t L h⟩
theorem strs_at' (w : World) (n : Nat) (cs : Array Value) (t : TypeId) (L : List (List UInt8)) (hn : w.heap.size = n) (h : cs = (L.map fun l => Value.string ⟨l.toArray⟩).toArray) : StrsAt (w.alloc (.cells cs t)) n L := by rw [← hn]; exact strs_at w cs t L h
theorem StrsAt.below {W W' : World} {g : Nat} {L : List (List UInt8)} (h : StrsAt W g L) (hb : Below W.heap.size W W') : StrsAt W' g L := ⟨Nat.lt_of_lt_of_le h.1 hb.size, fun k hk => (hb.cell (p := ⟨g, k, none⟩) h.1).trans (h.2 k hk)⟩
theorem bd_size : ∀ k : Fin 28, (bd6 k.val).size ≤ 20 := by decide +kernel
theorem gd_size : ∀ k : Fin 8, (gd6 k.val).size ≤ 20 := by decide +kernel
set_option maxRecDepth 100000 in
set_option maxHeartbeats 1000000 in
theorem walk (x y : Int) (w : World) (ht : STabs w) :
    Calls Tryd.prog 7 #[.int .i64 x, .int .i64 y] w fun e w' => e = .returned (.bool true) ∧ Below w.heap.size w w' := by
  have HT := Lib.hid ht
  clear ht
  obtain ⟨r, hr, er⟩ : ∃ r : Nat, r < 28 ∧ (IntKind.u64.wrap x).tmod 28 = (r : Int) := by
    have := IntKind.wrap_u64 x
    have h0 := Int.tmod_nonneg (a := IntKind.u64.wrap x) 28 (by omega)
    have h1 := Int.tmod_lt_of_pos (IntKind.u64.wrap x) (b := 28) (by omega)
    have h2 := Int.toNat_of_nonneg h0
    exact ⟨((IntKind.u64.wrap x).tmod 28).toNat, by omega, h2.symm⟩
  obtain ⟨q, hq, eq⟩ : ∃ q : Nat, q < 8 ∧ (IntKind.u64.wrap y).tmod 8 = (q : Int) := by
    have := IntKind.wrap_u64 y
    have h0 := Int.tmod_nonneg (a := IntKind.u64.wrap y) 8 (by omega)
    have h1 := Int.tmod_lt_of_pos (IntKind.u64.wrap y) (b := 8) (by omega)
    have h2 := Int.toNat_of_nonneg h0
    exact ⟨((IntKind.u64.wrap y).tmod 8).toNat, by omega, h2.symm⟩
  have hw := wrong_all ⟨q, hq⟩ ⟨r, hr⟩
  simp only at hw
  have zb : (bd6 r).size ≤ 20 := bd_size ⟨r, hr⟩
  have zg : (gd6 q).size ≤ 20 := gd_size ⟨q, hq⟩
  have HSC := Lib.hid (fun W h => scan_is (gd6 q ++ bd6 r) [] 4 (by rw [scan_F]; exact hw) (by rw [ByteArray.size_append]; omega) W h)
  obtain ⟨X, hX⟩ : ∃ X : ByteArray, X = bd6 r := ⟨_, rfl⟩
  obtain ⟨Y, hY⟩ : ∃ Y : ByteArray, Y = gd6 q := ⟨_, rfl⟩
  rw [← hX, ← hY] at HSC
  rw [← hX] at zb
  rw [← hY] at zg
  have HX := Lib.hid hX
  have HY := Lib.hid hY
  clear hw hX hY
  go_enter Tryd.func7, Tryd.ntmps7
  go_upto_region 1 with fail
  go_cut [5] from 10 to 10 (fun v wx => v = .slice (some ⟨w.heap.size, 0, none⟩) 28 28 ∧ Hid (StrsAt wx w.heap.size bds) ∧ Hid (Below w.heap.size w wx) ∧ Hid (wx.heap.size = w.heap.size + 1))
  case first =>
    go_wp2_with fail
    go_meet
    exact ⟨rfl, Lib.hid (strs_at _ _ _ _ rfl), Lib.hid (below1 _ _), Lib.hid (by simp)⟩
  case rest =>
    obtain ⟨rfl, HA, HB, HZ⟩ := hcut
    go_upto_region 2 with fail
    go_cut [6] from 11 to 11 (fun v wx => v = .slice (some ⟨w.heap.size + 1, 0, none⟩) 8 8 ∧ Hid (StrsAt wx (w.heap.size + 1) gds) ∧ Hid (StrsAt wx w.heap.size bds) ∧ Hid (Below w.heap.size w wx))
    case first =>
      have hz := HZ.out
      go_wp2_with fail
      go_meet
      exact ⟨rfl, Lib.hid (strs_at' _ _ _ _ _ hz rfl), Lib.hid (HA.out.below (below1 _ _)), Lib.hid (HB.out.alloc HB.out.size _)⟩
    case rest =>
      obtain ⟨rfl, HA2, HA1, HB1⟩ := hcut
      have cX : wc.cell? ⟨w.heap.size, r, none⟩ = some (.string X) := by rw [HX.out]; exact HA1.out.2 r hr
      have cY : wc.cell? ⟨w.heap.size + 1, q, none⟩ = some (.string Y) := by rw [HY.out]; exact HA2.out.2 q hq
      go_wp2_with fail
      go_quiet (fail)
      go_wp2_with fail
      have HBq : Hid (Below w.heap.size w (wc.drewN nq)) := Lib.hid (HB1.out.trans ((drew_below _ _).mono HB1.out.size))
      refine (HSC.out _ (HT.out.below HBq.out)).mono ?_
      rintro e w1 ⟨v1, rfl, ha1, hb1⟩
      obtain ⟨ad, cap, rfl, -⟩ := ha1
      have B1 : Hid (Below w.heap.size w w1) := Lib.hid (HBq.out.trans (hb1.mono HBq.out.size))
      clear hb1
      simp only [List.length_nil]
      go_wp2_with fail
      refine (told6_any _ (HT.out.below B1.out)).mono ?_
      rintro e w2 ⟨rfl, hb2⟩
      have B2 : Hid (Below w.heap.size w w2) := Lib.hid (B1.out.trans (hb2.mono B1.out.size))
      clear hb2
      go_wp2_with fail
      go_ret
      exact ⟨rfl, B2.out⟩
set_option maxRecDepth 100000 in
theorem lifted (os : Os) (started : os.Started) (H : Type) (enc : TypeId × Value → H) :
    ReturnsInHanded {} Tryd.checked os 7 .any (fun w args => (Rows.scanWrongSpec.pre enc Tryd.prog Tryd.f7 [] false w args ∧ laidMetH Tryd.prog scanLaid w) ∧ sizedMet enc Tryd.prog Tryd.f7 (OpenSpec.ofChange Rows.scanWrongSpec) false w args)
      (Rows.scanWrongSpec.post enc Tryd.prog Tryd.f7 false true false false) := by
  refine returnsInHanded_of_change_and (C := Tryd.checked) (X := fun w _ => laidMetH Tryd.prog scanLaid w) (fun _ _ _ hh h => h.of_heap hh) own6 started (by kernel_rfl) Tryd.func7
    (ChangeSpec.witness_shaped (enc := enc) (C := Tryd.checked) (os := os) (X := fun w _ => laidMetH Tryd.prog scanLaid w) false (World.laidAll Tryd.prog os scanLaid) #[.int .i64 0, .int .i64 0] 8 (World.laidAll_os _ _ _) (World.shaped_of_ZipB (by kernel_rfl) (by kernel_rfl)) (by kernel_rfl) (by kernel_rfl) (by kernel_rfl) (laid_met6 os _)) ?_
  intro W base args ds gs before hval0 hW _ _ hL _
  have hval : ∀ (j : Nat) t v, Tryd.f7.params[j]? = some t → args[j]? = some v → Value.okWide Tryd.prog W .any base t v := hval0
  have hW' := hW
  obtain ⟨p, q, hA0, hV, rfl, hfz, hnd⟩ := hW
  have hA : DataW.TrodAll enc Tryd.prog W 0 (fun _ => true) true Tryd.f7.params.toList args.toList ds p := hA0
  rw [Tryd.params7] at hA hval
  obtain ⟨v0, vs0, d0, ds0, p0, q0, hargs, rfl, rfl, h0, r0⟩ := trodAll_cons hA
  obtain ⟨v1, vs1, d1, ds1, p1, q1, rfl, rfl, rfl, h1, r1⟩ := trodAll_cons r0
  obtain ⟨rfl, rfl, rfl⟩ := trodAll_nil r1
  obtain rfl : args = #[v0, v1] := by cases args; simp_all
  obtain ⟨rfl, rfl⟩ := trodVars_none hV
  obtain ⟨a0, rfl, rfl, rfl, w0⟩ := open_int Tryd.underlying3 (hval 0 3 v0 rfl rfl) h0
  obtain ⟨a1, rfl, rfl, rfl, w1⟩ := open_int Tryd.underlying3 (hval 1 3 v1 rfl rfl) h1
  clear hA0 hval0
  simp only [List.append_nil] at hW'
  refine (walk a0 a1 W (stabs_of_laid hL)).mono fun e W' ⟨he, bel⟩ => ?_
  subst he
  exact ⟨_, rfl, _, _, _, [], _, [], hW', trodAll_mk1 (shut_bool Tryd.underlying4 _), (trodAll_cons_mk (shut_int Tryd.underlying3 w0) (trodAll_cons_mk (shut_int Tryd.underlying3 w1) trodAll_mk0)), rfl, bel.frame _, fun h => by cases h⟩
theorem over : Rows.ScanWrongSaid :=
  OpenClaim.holds_of_wide 7 Tryd.f7 rfl rfl rfl rfl rfl rfl rfl ⟨rfl, rfl, rfl, rfl, rfl⟩ rfl rfl rfl rfl rfl (by kernel_rfl) Tryd.func7 (by kernel_rfl)
    (of_decide_eq_true (by kernel_rfl)) (by unfold Func.isWrapper; first | (rw [if_pos (by decide +kernel)]; kernel_rfl) | (rw [if_neg (by decide +kernel)]; exact ⟨rfl, rfl⟩))
    (fun os started H enc _ => lifted os started H enc)
/-- THE TIED CARD. -/
theorem proved : Rows.ScanWrongCardSaid :=
  Claim7.holds_tied_plain_at .later [] [.data, .data, .data, .data, .data, .data, .pinned] true Rows.scanWrongCard.stood.harness false
    over (fun _ h => by cases h) (by kernel_rfl) (fun _ h => by cases h) scanWrong_row_tie rfl ⟨rfl, rfl⟩ (by kernel_rfl) rfl
    (fun f fn hf hfn => by
      obtain rfl : f = 7 := Option.some.inj ((show Tryd.prog.funcNamed "galley/galleylaw6.ScanWrong" = some 7 by kernel_rfl).symm.trans hf) |>.symm
      obtain rfl : fn = Tryd.f7 := (Option.some.inj (Tryd.func7.symm.trans hfn)).symm
      exact ⟨by kernel_rfl, fun j t ht => by
        rw [Tryd.params7] at ht
        have hm : t ∈ [3] := by
          have := Array.mem_of_getElem? ht
          simpa using this
        have hall : ([3].all fun u => !Tryd.prog.wantsStandIn u) = true := by kernel_rfl
        exact (show Tryd.prog.wantsStandIn t = false by simpa using List.all_eq_true.1 hall t hm)⟩)
    (by kernel_rfl)
#print axioms proved
end Go.Proofs.YtajjhhodpohfpaaDoor.scanWrong
