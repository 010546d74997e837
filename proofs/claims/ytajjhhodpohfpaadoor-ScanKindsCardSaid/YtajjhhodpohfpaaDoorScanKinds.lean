/-
  Each kind's tokens are told as that kind, whatever token stands ahead or behind (promise 6.2): for every two integers the statement ScanKinds returns true.
-/
import Derived.Test.YtajjhhodpohfpaaDoorScanLaid
import Derived.Test.YtajjhhodpohfpaaDoorCards
import Derived.Test.YtajjhhodpohfpaaDoorTie
import Derived.Test.YtajjhhodpohfpaaDoorBase
import Derived.Test.YtajjhhodpohfpaaDoorScanKindsMath
import Derived.Deep.CutRange
import Derived.BigRegion
import Derived.Deep.RegionHeld3
import Derived.Deep.QuietTactic
import Derived.BigQuiet
namespace Go.Proofs.YtajjhhodpohfpaaDoor.scanKinds
open Go.ChangeShapes Go.WideShapes Go.ChangeAt Go.RowKit Go.PlainAid

/-- The tables' cells that the call reads. -/
def Kd (w W : World) (r q : Nat) (X Y : ByteArray) (A B : Int) : Prop :=
  (W.cell? ⟨w.heap.size, r, none⟩ = some (.string X) ∧ W.cell? ⟨w.heap.size, q, none⟩ = some (.string Y) ∧ W.cell? ⟨w.heap.size + 1, r, none⟩ = some (.int .i64 A) ∧ W.cell? ⟨w.heap.size + 1, q, none⟩ = some (.int .i64 B)) ∧ w.heap.size + 1 < W.heap.size ∧ Below w.heap.size w W
theorem Kd.below {w W W' : World} {r q : Nat} {X Y : ByteArray} {A B : Int} (h : Kd w W r q X Y A B) (hb : Below W.heap.size W W') : Kd w W' r q X Y A B := by
  obtain ⟨⟨h1, h2, h3, h4⟩, h5, h6⟩ := h
  exact ⟨⟨(hb.cell (p := ⟨w.heap.size, r, none⟩) (by show w.heap.size < W.heap.size; omega)).trans h1, (hb.cell (p := ⟨w.heap.size, q, none⟩) (by show w.heap.size < W.heap.size; omega)).trans h2, (hb.cell (p := ⟨w.heap.size + 1, r, none⟩) h5).trans h3, (hb.cell (p := ⟨w.heap.size + 1, q, none⟩) h5).trans h4⟩, Nat.lt_of_lt_of_le h5 hb.size, h6.trans (hb.mono h6.size)⟩
theorem S1_of {w W : World} {r q : Nat} {X Y : ByteArray} {A B : Int} (h : Kd w W r q X Y A B) : W.cell? ⟨w.heap.size, r, none⟩ = some (.string X) ∧ W.cell? ⟨w.heap.size, q, none⟩ = some (.string Y) ∧ Hid (Kd w W r q X Y A B) := ⟨h.1.1, h.1.2.1, Lib.hid h⟩
theorem S1_kd {w W : World} {r q : Nat} {X Y : ByteArray} {A B : Int} (h : W.cell? ⟨w.heap.size, r, none⟩ = some (.string X) ∧ W.cell? ⟨w.heap.size, q, none⟩ = some (.string Y) ∧ Hid (Kd w W r q X Y A B)) : Kd w W r q X Y A B := h.2.2.out
/-- All cells that the answer reads. -/
abbrev S2 (w : World) (g r q : Nat) (X Y : ByteArray) (A B : Int) (W : World) : Prop :=
  W.cell? ⟨w.heap.size, r, none⟩ = some (.string X) ∧ W.cell? ⟨w.heap.size, q, none⟩ = some (.string Y) ∧ W.cell? ⟨w.heap.size + 1, r, none⟩ = some (.int .i64 A) ∧ W.cell? ⟨w.heap.size + 1, q, none⟩ = some (.int .i64 B) ∧
  W.cell? ⟨g, 0, none⟩ = some (.int .i64 A) ∧ W.cell? ⟨g, 1, none⟩ = some (.string X) ∧ W.cell? ⟨g, 3, none⟩ = some (.int .i64 B) ∧ W.cell? ⟨g, 4, none⟩ = some (.string Y) ∧ W.cell? ⟨g, 5, none⟩ = some (.int .i64 ((X.size : Int) + 1)) ∧ Hid (Kd w W r q X Y A B) ∧ Hid (Kr W g X Y A B)
theorem S2_of {w W : World} {g r q : Nat} {X Y : ByteArray} {A B : Int} (h : Kd w W r q X Y A B) (k : Kr W g X Y A B) : S2 w g r q X Y A B W :=
  ⟨h.1.1, h.1.2.1, h.1.2.2.1, h.1.2.2.2, k.1.1, k.1.2.1, k.1.2.2.1, k.1.2.2.2.1, k.1.2.2.2.2, Lib.hid h, Lib.hid k⟩
theorem S2_kd {w W : World} {g r q : Nat} {X Y : ByteArray} {A B : Int} (h : S2 w g r q X Y A B W) : Kd w W r q X Y A B ∧ Kr W g X Y A B := ⟨h.2.2.2.2.2.2.2.2.2.1.out, h.2.2.2.2.2.2.2.2.2.2.out⟩
theorem two_is (r q : Nat) (hr : r < 28) (hq : q < 29) (w : World) (ht : STabs w) :
    Calls Tryd.prog 11 #[.string (kt r ++ { data := #[32] } ++ kt q)] w fun e w' => ∃ g cap, e = .returned (.tuple #[.slice (some ⟨g, 0, none⟩) 2 cap, .int .i64 0]) ∧ Kr w' g (kt r) (kt q) (kk r) (kk q) ∧ Below w.heap.size w w' := by
  have hk := kinds_all ⟨r, hr⟩ ⟨q, hq⟩
  simp only at hk
  have hx : ∀ k : Fin 29, (kt k.val).size ≤ 20 := by decide +kernel
  have hx1 : (kt r).size ≤ 20 := hx ⟨r, by omega⟩
  have hx2 : (kt q).size ≤ 20 := hx ⟨q, hq⟩
  rw [← scan_F] at hk
  exact two_of hk (by omega) (by omega) w ht
theorem strs_cell (w : World) (t : TypeId) (cs : Array Value) (k : Nat) (hk : k < 29) (h : cs = (kts.map fun l => Value.string ⟨l.toArray⟩).toArray) : (w.alloc (.cells cs t)).cell? ⟨w.heap.size, k, none⟩ = some (.string (kt k)) := by
  rw [World.cell?_alloc_new, h, List.getElem?_toArray, List.getElem?_map]
  have : kts[k]? = some (kts.getD k []) := by
    rw [List.getD, List.getElem?_eq_getElem (by exact hk)]; rfl
  rw [this]; rfl
theorem ints_cell (w : World) (t : TypeId) (cs : Array Value) (k : Nat) (hk : k < 29) (h : cs = (kks.map fun l => Value.int .i64 l).toArray) : (w.alloc (.cells cs t)).cell? ⟨w.heap.size, k, none⟩ = some (.int .i64 (kk k)) := by
  rw [World.cell?_alloc_new, h, List.getElem?_toArray, List.getElem?_map]
  have : kks[k]? = some (kks.getD k 0) := by
    rw [List.getD, List.getElem?_eq_getElem (by exact hk)]; rfl
  rw [this]; rfl
set_option maxRecDepth 100000 in
set_option maxHeartbeats 4000000 in
theorem walk (x y : Int) (w : World) (ht : STabs w) :
    Calls Tryd.prog 6 #[.int .i64 x, .int .i64 y] w fun e w' => e = .returned (.bool true) ∧ Below w.heap.size w w' := by
  have HT := Lib.hid ht
  clear ht
  obtain ⟨r, hr, er⟩ : ∃ r : Nat, r < 28 ∧ (IntKind.u64.wrap x).tmod 28 = (r : Int) := by
    have := IntKind.wrap_u64 x
    have h0 := Int.tmod_nonneg (a := IntKind.u64.wrap x) 28 (by omega)
    have h1 := Int.tmod_lt_of_pos (IntKind.u64.wrap x) (b := 28) (by omega)
    have h2 := Int.toNat_of_nonneg h0
    exact ⟨((IntKind.u64.wrap x).tmod 28).toNat, by omega, h2.symm⟩
  obtain ⟨q, hq, eq⟩ : ∃ q : Nat, q < 29 ∧ (IntKind.u64.wrap y).tmod 29 = (q : Int) := by
    have := IntKind.wrap_u64 y
    have h0 := Int.tmod_nonneg (a := IntKind.u64.wrap y) 29 (by omega)
    have h1 := Int.tmod_lt_of_pos (IntKind.u64.wrap y) (b := 29) (by omega)
    have h2 := Int.toNat_of_nonneg h0
    exact ⟨((IntKind.u64.wrap y).tmod 29).toNat, by omega, h2.symm⟩
  have hx : ∀ k : Fin 29, (kt k.val).size ≤ 20 := by decide +kernel
  have zx : (kt r).size ≤ 20 := hx ⟨r, by omega⟩
  have zy : (kt q).size ≤ 20 := hx ⟨q, hq⟩
  have HSC := Lib.hid (fun W h => two_is r q hr hq W h)
  obtain ⟨X, hX⟩ : ∃ X : ByteArray, X = kt r := ⟨_, rfl⟩
  obtain ⟨Y, hY⟩ : ∃ Y : ByteArray, Y = kt q := ⟨_, rfl⟩
  obtain ⟨A, hA⟩ : ∃ A : Int, A = kk r := ⟨_, rfl⟩
  obtain ⟨B, hB⟩ : ∃ B : Int, B = kk q := ⟨_, rfl⟩
  rw [← hX, ← hY, ← hA, ← hB] at HSC
  rw [← hX] at zx
  rw [← hY] at zy
  have HX := Lib.hid hX
  have HY := Lib.hid hY
  have HA := Lib.hid hA
  have HB := Lib.hid hB
  clear hx hX hY hA hB
  go_enter Tryd.func6, Tryd.ntmps6
  go_upto_region 1 with fail
  go_cut [5] from 11 to 11 (fun v wx => v = .slice (some ⟨w.heap.size, 0, none⟩) 29 29 ∧ Hid (∃ t cs, wx = w.alloc (.cells cs t) ∧ cs = (kts.map fun l => Value.string ⟨l.toArray⟩).toArray))
  case first =>
    go_wp2_with fail
    go_meet
    exact ⟨rfl, Lib.hid ⟨_, _, rfl, rfl⟩⟩
  case rest =>
    obtain ⟨rfl, HW⟩ := hcut
    go_upto_region 2 with fail
    go_cut [6] from 12 to 12 (fun v wx => v = .slice (some ⟨w.heap.size + 1, 0, none⟩) 29 29 ∧ Hid (Kd w wx r q X Y A B))
    case first =>
      obtain ⟨t, cs, rfl, hcs⟩ := HW.out
      have HCS := Lib.hid hcs
      clear hcs
      go_wp2_with fail
      go_meet
      refine ⟨rfl, Lib.hid ?_⟩
      have hb := below1 (w.alloc (.cells cs t))
      have hz : (w.alloc (.cells cs t)).heap.size = w.heap.size + 1 := by simp
      have cr := strs_cell w t cs r (by omega) HCS.out
      have cq := strs_cell w t cs q hq HCS.out
      refine ⟨⟨?_, ?_, ?_, ?_⟩, by simp, ((Below.refl _ _).alloc (Nat.le_refl _) _).alloc (by simp) _⟩
      · rw [HX.out]; exact ((hb _).cell (p := ⟨w.heap.size, r, none⟩) (by rw [hz]; show w.heap.size < w.heap.size + 1; omega)).trans cr
      · rw [HY.out]; exact ((hb _).cell (p := ⟨w.heap.size, q, none⟩) (by rw [hz]; show w.heap.size < w.heap.size + 1; omega)).trans cq
      · rw [HA.out, ← hz]; exact ints_cell (w.alloc (.cells cs t)) _ _ r (by omega) rfl
      · rw [HB.out, ← hz]; exact ints_cell (w.alloc (.cells cs t)) _ _ q hq rfl
    case rest =>
      obtain ⟨rfl, HK⟩ := hcut
      clear HW HX HY HA HB
      go_wp2_with fail
      go_quiet (fail)
      have HK1 : Hid (Kd w (wc.drewN nq).drew r q X Y A B) := Lib.hid (HK.out.below ((drew_below _ _).trans (Below.drew (Below.refl _ _))))
      clear HK
      have z1 : ¬ 9223372036854775807 < X.size + 1 := by omega
      have z2 : ¬ 9223372036854775807 < X.size + 1 + Y.size := by omega
      have r1 : (0 : Int) ≤ (r : Int) := by omega
      have r2 : (r : Int) < 29 := by omega
      have q1 : (0 : Int) ≤ (q : Int) := by omega
      have q2 : (q : Int) < 29 := by omega
      have D1 : Hid (∀ W, Kd w W r q X Y A B → Calls Tryd.prog 11 #[.string (X ++ { data := #[32] } ++ Y)] W fun e w' => ∃ g cap, e = .returned (.tuple #[.slice (some ⟨g, 0, none⟩) 2 cap, .int .i64 0]) ∧ Kr w' g X Y A B ∧ Kd w w' r q X Y A B) := Lib.hid fun W h => (HSC.out W (HT.out.below h.2.2)).mono (by rintro e w' ⟨g, cap, rfl, h1, hb⟩; exact ⟨g, cap, rfl, h1, h.below hb⟩)
      go_wp2_with fail
      go_region_held3 (fun w' => w'.cell? ⟨w.heap.size, r, none⟩ = some (.string X) ∧ w'.cell? ⟨w.heap.size, q, none⟩ = some (.string Y) ∧ Hid (Kd w w' r q X Y A B)) (first | exact S1_of HK1.out | exact S1_of ht1) (first
        | (go_at_call 11; refine (D1.out _ (by first | (refine Hid.out ?_; assumption) | exact S1_kd (by assumption))).mono ?_; rintro e w1 ⟨g, cap, rfl, hr1, ht1⟩))
      have HK2 : Hid (Kd w w1.drew r q X Y A B) := Lib.hid (ht1.below (Below.drew (Below.refl _ _)))
      have HR2 : Hid (Kr w1.drew g X Y A B) := Lib.hid (hr1.below (Below.drew (Below.refl _ _)))
      clear ht1 hr1
      have D2 : Hid (∀ W, Kd w W r q X Y A B ∧ Kr W g X Y A B → Calls Tryd.prog 10 #[] W fun e w' => e = .returned (.bool true) ∧ Kd w w' r q X Y A B ∧ Kr w' g X Y A B) := Lib.hid fun W h => (told6_any W (HT.out.below h.1.2.2)).mono (by rintro e w' ⟨rfl, hb⟩; exact ⟨rfl, h.1.below hb, h.2.below hb⟩)
      go_wp2_with fail
      simp only [List.append]
      have wX : IntKind.i64.wrap ((X.size : Int) + 1) = (X.size : Int) + 1 := by rw [IntKind.wrap_i64]; omega
      go_region_held3 (fun w' => w'.cell? ⟨w.heap.size, r, none⟩ = some (.string X) ∧ w'.cell? ⟨w.heap.size, q, none⟩ = some (.string Y) ∧ w'.cell? ⟨w.heap.size + 1, r, none⟩ = some (.int .i64 A) ∧ w'.cell? ⟨w.heap.size + 1, q, none⟩ = some (.int .i64 B) ∧ w'.cell? ⟨g, 0, none⟩ = some (.int .i64 A) ∧ w'.cell? ⟨g, 1, none⟩ = some (.string X) ∧ w'.cell? ⟨g, 3, none⟩ = some (.int .i64 B) ∧ w'.cell? ⟨g, 4, none⟩ = some (.string Y) ∧ w'.cell? ⟨g, 5, none⟩ = some (.int .i64 ((X.size : Int) + 1)) ∧ Hid (Kd w w' r q X Y A B) ∧ Hid (Kr w' g X Y A B)) (first | exact S2_of HK2.out HR2.out | exact S2_of ht2.1 ht2.2) (first
        | (go_at_call 10; refine (D2.out _ (by first | (refine ⟨Hid.out ?_, Hid.out ?_⟩ <;> assumption) | exact S2_kd (by assumption))).mono ?_; rintro e w2 ⟨rfl, ht2⟩))
      go_wp2_with fail
      go_ret
      exact ⟨rfl, ht2.1.2.2⟩
set_option maxRecDepth 100000 in
theorem lifted (os : Os) (started : os.Started) (H : Type) (enc : TypeId × Value → H) :
    ReturnsInHanded {} Tryd.checked os 6 .any (fun w args => (Rows.scanKindsSpec.pre enc Tryd.prog Tryd.f6 [] false w args ∧ laidMetH Tryd.prog scanLaid w) ∧ sizedMet enc Tryd.prog Tryd.f6 (OpenSpec.ofChange Rows.scanKindsSpec) false w args)
      (Rows.scanKindsSpec.post enc Tryd.prog Tryd.f6 false true false false) := by
  refine returnsInHanded_of_change_and (C := Tryd.checked) (X := fun w _ => laidMetH Tryd.prog scanLaid w) (fun _ _ _ hh h => h.of_heap hh) own6 started (by kernel_rfl) Tryd.func6
    (ChangeSpec.witness_shaped (enc := enc) (C := Tryd.checked) (os := os) (X := fun w _ => laidMetH Tryd.prog scanLaid w) false (World.laidAll Tryd.prog os scanLaid) #[.int .i64 0, .int .i64 0] 8 (World.laidAll_os _ _ _) (World.shaped_of_ZipB (by kernel_rfl) (by kernel_rfl)) (by kernel_rfl) (by kernel_rfl) (by kernel_rfl) (laid_met6 os _)) ?_
  intro W base args ds gs before hval0 hW _ _ hL _
  have hval : ∀ (j : Nat) t v, Tryd.f6.params[j]? = some t → args[j]? = some v → Value.okWide Tryd.prog W .any base t v := hval0
  have hW' := hW
  obtain ⟨p, q, hA0, hV, rfl, hfz, hnd⟩ := hW
  have hA : DataW.TrodAll enc Tryd.prog W 0 (fun _ => true) true Tryd.f6.params.toList args.toList ds p := hA0
  rw [Tryd.params6] at hA hval
  obtain ⟨v0, vs0, d0, ds0, p0, q0, hargs, rfl, rfl, h0, r0⟩ := trodAll_cons hA
  obtain ⟨v1, vs1, d1, ds1, p1, q1, rfl, rfl, rfl, h1, r1⟩ := trodAll_cons r0
  obtain ⟨rfl, rfl, rfl⟩ := trodAll_nil r1
  obtain rfl : args = #[v0, v1] := by cases args; simp_all
  obtain ⟨rfl, rfl⟩ := trodVars_none hV
  obtain ⟨a0, rfl, rfl, rfl, w0⟩ := open_int Tryd.underlying3 (hval 0 3 v0 rfl rfl) h0
  obtain ⟨a1, rfl, rfl, rfl, w1⟩ := open_int Tryd.underlying3 (hval 1 3 v1 rfl rfl) h1
  clear hA0 hval0
  simp only [List.append_nil] at hW'
  refine (walk a0 a1 W (stabs_of_laid hL)).mono fun e W' ⟨he, bel⟩ => ?_
  subst he
  exact ⟨_, rfl, _, _, _, [], _, [], hW', trodAll_mk1 (shut_bool Tryd.underlying4 _), (trodAll_cons_mk (shut_int Tryd.underlying3 w0) (trodAll_cons_mk (shut_int Tryd.underlying3 w1) trodAll_mk0)), rfl, bel.frame _, fun h => by cases h⟩
theorem over : Rows.ScanKindsSaid :=
  OpenClaim.holds_of_wide 6 Tryd.f6 rfl rfl rfl rfl rfl rfl rfl ⟨rfl, rfl, rfl, rfl, rfl⟩ rfl rfl rfl rfl rfl (by kernel_rfl) Tryd.func6 (by kernel_rfl)
    (of_decide_eq_true (by kernel_rfl)) (by unfold Func.isWrapper; first | (rw [if_pos (by decide +kernel)]; kernel_rfl) | (rw [if_neg (by decide +kernel)]; exact ⟨rfl, rfl⟩))
    (fun os started H enc _ => lifted os started H enc)
/-- THE TIED CARD. -/
theorem proved : Rows.ScanKindsCardSaid :=
  Claim7.holds_tied_plain_at .later [] [.data, .data, .data, .data, .data, .data, .pinned] true Rows.scanKindsCard.stood.harness false
    over (fun _ h => by cases h) (by kernel_rfl) (fun _ h => by cases h) scanKinds_row_tie rfl ⟨rfl, rfl⟩ (by kernel_rfl) rfl
    (fun f fn hf hfn => by
      obtain rfl : f = 6 := Option.some.inj ((show Tryd.prog.funcNamed "galley/galleylaw6.ScanKinds" = some 6 by kernel_rfl).symm.trans hf) |>.symm
      obtain rfl : fn = Tryd.f6 := (Option.some.inj (Tryd.func6.symm.trans hfn)).symm
      exact ⟨by kernel_rfl, fun j t ht => by
        rw [Tryd.params6] at ht
        have hm : t ∈ [3] := by
          have := Array.mem_of_getElem? ht
          simpa using this
        have hall : ([3].all fun u => !Tryd.prog.wantsStandIn u) = true := by kernel_rfl
        exact (show Tryd.prog.wantsStandIn t = false by simpa using List.all_eq_true.1 hall t hm)⟩)
    (by kernel_rfl)
#print axioms proved
end Go.Proofs.YtajjhhodpohfpaaDoor.scanKinds
