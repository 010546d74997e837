/-
  The prefixes, and no others; what stands between has a level and a side (promise 9.1): for every integer the statement OpsPrefixes returns true. No condition.
-/
import Derived.Test.YtbinennnddfplaaBase
import Derived.Test.YtbinennnddfplaaOpsTold
import Derived.Deep.CutRange
import Derived.BigRegion
import Derived.BigQuiet
namespace Go.Proofs.Ytbinennnddfplaa.opsPrefixes
open Go.ChangeShapes Go.WideShapes Go.ChangeAt Go.RowKit Go.PlainAid

/-- The words and signs. -/
def wds : List (List UInt8) := [[43], [45], [110, 111, 116], [98, 110, 111, 116], [42], [99, 97, 116, 99, 104], [61], [58, 58], [100, 105, 118], [97, 110, 100], [33], [35], [40], [], [110, 111, 116, 116], [61, 62], [60, 45], [124, 124], [43, 43]]
theorem wds_all : ∀ k : Fin 19, pf (wds.getD k.val []) = if k.val < 4 then 10 else 0 := by decide +kernel
theorem wds_cell (w : World) (t : TypeId) (cs : Array Value) (k : Nat) (hk : k < 19) (h : cs = (wds.map fun l => Value.string ⟨l.toArray⟩).toArray) : (w.alloc (.cells cs t)).cell? ⟨w.heap.size, k, none⟩ = some (.string ⟨(wds.getD k []).toArray⟩) := by
  rw [World.cell?_alloc_new, h, List.getElem?_toArray, List.getElem?_map]
  have : wds[k]? = some (wds.getD k []) := by
    rw [List.getD, List.getElem?_eq_getElem (by exact hk)]; rfl
  rw [this]; rfl
theorem bytes_list (X : List UInt8) : (⟨X.toArray⟩ : ByteArray).toList = X := by simp
theorem lf_pos {x : List UInt8} (h : 1 ≤ bn x) : 1 ≤ lf x := by unfold lf; split <;> omega
theorem lf_zero {x : List UInt8} (h : bn x = 0) : lf x = 0 := by unfold lf; rw [h]; rfl
theorem mod_lt (x : Int) : ∃ r : Nat, r < 19 ∧ (IntKind.u64.wrap x).tmod 19 = (r : Int) := by
  have := IntKind.wrap_u64 x
  have h0 := Int.tmod_nonneg (a := IntKind.u64.wrap x) 19 (by omega)
  have h1 := Int.tmod_lt_of_pos (IntKind.u64.wrap x) (b := 19) (by omega)
  have h2 := Int.toNat_of_nonneg h0
  exact ⟨((IntKind.u64.wrap x).tmod 19).toNat, by omega, h2.symm⟩
set_option maxRecDepth 100000 in
set_option maxHeartbeats 4000000 in
theorem walk (x : Int) (w : World) :
    Calls Try.prog 5 #[.int .i64 x] w fun e w' => e = .returned (.bool true) ∧ Below w.heap.size w w' := by
  obtain ⟨r, hr, er⟩ := mod_lt x
  have hp := wds_all ⟨r, hr⟩
  simp only at hp
  have CX := Lib.hid (fun (W : World) t cs h => wds_cell W t cs r hr h)
  obtain ⟨X, hX⟩ : ∃ X, X = wds.getD r [] := ⟨_, rfl⟩
  rw [← hX] at CX hp
  clear hX
  have h9 := bn_le X
  have hd : (bn X = 0 ∧ sd X = 0 ∧ lf X = 0) ∨ (1 ≤ bn X ∧ 1 ≤ sd X ∧ 1 ≤ lf X) := by
    by_cases h : bn X = 0
    · exact .inl ⟨h, sd_zero X h, lf_zero h⟩
    · have h1 : 1 ≤ bn X := by omega
      refine .inr ⟨h1, ?_, lf_pos h1⟩
      rcases sd_of X h1 with e | e | e <;> omega
  obtain ⟨n, hn⟩ : ∃ n, n = bn X := ⟨_, rfl⟩
  obtain ⟨m, hm⟩ : ∃ n, n = sd X := ⟨_, rfl⟩
  obtain ⟨l, hl⟩ : ∃ n, n = lf X := ⟨_, rfl⟩
  obtain ⟨p, hpp⟩ : ∃ n, n = pf X := ⟨_, rfl⟩
  have BX := Lib.hid (fun W => pbin_is ⟨X.toArray⟩ n (by rw [hn, bytes_list]) W)
  have RX : Hid (∀ W, Calls Try.prog 8 #[.string ⟨X.toArray⟩] W fun e w' => e = .returned (.int .i64 (n : Int)) ∧ Below W.heap.size W w') := Lib.hid (fun W => by have := rbin_any ⟨X.toArray⟩ W; rw [bytes_list, ← hn] at this; exact this)
  have SX := Lib.hid (fun W => pside_is ⟨X.toArray⟩ m (by rw [hm, bytes_list]) W)
  have LX := Lib.hid (fun W => pleft_is ⟨X.toArray⟩ l (by rw [hl, bytes_list]) W)
  have PX := Lib.hid (fun W => pprefix_is ⟨X.toArray⟩ p (by rw [hpp, bytes_list]) W)
  rw [← hn, ← hm, ← hl] at hd
  rw [← hpp] at hp
  clear hn hm hl hpp h9
  have HD := Lib.hid hd
  have HP := Lib.hid hp
  clear hd hp
  obtain ⟨S, hS⟩ : ∃ S : ByteArray, S = ⟨X.toArray⟩ := ⟨_, rfl⟩
  rw [← hS] at CX BX RX SX LX PX
  clear hS
  go_enter Try.func5, Try.ntmps5
  go_upto_region 1 with fail
  go_cut [3] from 7 to 7 (fun v wx => v = .slice (some ⟨w.heap.size, 0, none⟩) 19 19 ∧ Hid (∃ t cs, wx = w.alloc (.cells cs t) ∧ cs = (wds.map fun l => Value.string ⟨l.toArray⟩).toArray))
  case first =>
    go_wp2_with fail
    go_meet
    exact ⟨rfl, Lib.hid ⟨_, _, rfl, rfl⟩⟩
  case rest =>
    obtain ⟨rfl, HW⟩ := hcut
    have B0 : Hid (Below w.heap.size w wc) := Lib.hid (by obtain ⟨_, _, h, -⟩ := HW.out; rw [h]; exact below1 _ _)
    have c1 : wc.cell? ⟨w.heap.size, r, none⟩ = some (.string S) := by obtain ⟨_, _, h, h2⟩ := HW.out; rw [h]; exact CX.out _ _ _ h2
    have r1 : (0 : Int) ≤ (r : Int) := by omega
    have r2 : (r : Int) < 19 := by omega
    clear HW CX
    by_cases h4 : r < 4
    · rcases HD.out with ⟨rfl, rfl, rfl⟩ | ⟨g1, g2, g3⟩
      · have r4 : (r : Int) < 4 := by omega
        obtain rfl : p = 10 := by have := HP.out; rw [if_pos h4] at this; exact this
        go_wp2_with fail
        refine (told9_any _).mono ?_
        rintro e w1 ⟨rfl, hb1⟩
        have B1 : Hid (Below w.heap.size w w1) := Lib.hid (B0.out.trans (hb1.mono B0.out.size))
        clear hb1 B0
        go_wp2_with fail
        refine (PX.out _).mono ?_
        rintro e w2 ⟨rfl, hb2⟩
        have B2 : Hid (Below w.heap.size w w2) := Lib.hid (B1.out.trans (hb2.mono B1.out.size))
        clear hb2 B1
        go_wp2_with fail
        refine (BX.out _).mono ?_
        rintro e w3 ⟨rfl, hb3⟩
        have B3 : Hid (Below w.heap.size w w3) := Lib.hid (B2.out.trans (hb3.mono B2.out.size))
        clear hb3 B2
        go_wp2_with fail
        refine (RX.out _).mono ?_
        rintro e w4 ⟨rfl, hb4⟩
        have B4 : Hid (Below w.heap.size w w4) := Lib.hid (B3.out.trans (hb4.mono B3.out.size))
        clear hb4 B3
        go_wp2_with fail
        refine (SX.out _).mono ?_
        rintro e w5 ⟨rfl, hb5⟩
        have B5 : Hid (Below w.heap.size w w5) := Lib.hid (B4.out.trans (hb5.mono B4.out.size))
        clear hb5 B4
        go_wp2_with fail
        refine (BX.out _).mono ?_
        rintro e w6 ⟨rfl, hb6⟩
        have B6 : Hid (Below w.heap.size w w6) := Lib.hid (B5.out.trans (hb6.mono B5.out.size))
        clear hb6 B5
        go_wp2_with fail
        refine (LX.out _).mono ?_
        rintro e w7 ⟨rfl, hb7⟩
        have B7 : Hid (Below w.heap.size w w7) := Lib.hid (B6.out.trans (hb7.mono B6.out.size))
        clear hb7 B6
        go_wp2_with fail
        refine (BX.out _).mono ?_
        rintro e w8 ⟨rfl, hb8⟩
        have B8 : Hid (Below w.heap.size w w8) := Lib.hid (B7.out.trans (hb8.mono B7.out.size))
        clear hb8 B7
        go_wp2_with fail
        go_ret
        exact ⟨rfl, B8.out⟩
      · have r4 : (r : Int) < 4 := by omega
        obtain rfl : p = 10 := by have := HP.out; rw [if_pos h4] at this; exact this
        have n1 : decide (0 < n) = true := decide_eq_true (by omega)
        have n2 : decide (0 < m) = true := decide_eq_true (by omega)
        have n3 : decide (0 < l) = true := decide_eq_true (by omega)
        go_wp2_with fail
        refine (told9_any _).mono ?_
        rintro e w1 ⟨rfl, hb1⟩
        have B1 : Hid (Below w.heap.size w w1) := Lib.hid (B0.out.trans (hb1.mono B0.out.size))
        clear hb1 B0
        go_wp2_with fail
        refine (PX.out _).mono ?_
        rintro e w2 ⟨rfl, hb2⟩
        have B2 : Hid (Below w.heap.size w w2) := Lib.hid (B1.out.trans (hb2.mono B1.out.size))
        clear hb2 B1
        go_wp2_with fail
        refine (BX.out _).mono ?_
        rintro e w3 ⟨rfl, hb3⟩
        have B3 : Hid (Below w.heap.size w w3) := Lib.hid (B2.out.trans (hb3.mono B2.out.size))
        clear hb3 B2
        go_wp2_with fail
        refine (RX.out _).mono ?_
        rintro e w4 ⟨rfl, hb4⟩
        have B4 : Hid (Below w.heap.size w w4) := Lib.hid (B3.out.trans (hb4.mono B3.out.size))
        clear hb4 B3
        go_wp2_with fail
        refine (SX.out _).mono ?_
        rintro e w5 ⟨rfl, hb5⟩
        have B5 : Hid (Below w.heap.size w w5) := Lib.hid (B4.out.trans (hb5.mono B4.out.size))
        clear hb5 B4
        go_wp2_with fail
        refine (BX.out _).mono ?_
        rintro e w6 ⟨rfl, hb6⟩
        have B6 : Hid (Below w.heap.size w w6) := Lib.hid (B5.out.trans (hb6.mono B5.out.size))
        clear hb6 B5
        go_wp2_with fail
        refine (LX.out _).mono ?_
        rintro e w7 ⟨rfl, hb7⟩
        have B7 : Hid (Below w.heap.size w w7) := Lib.hid (B6.out.trans (hb7.mono B6.out.size))
        clear hb7 B6
        go_wp2_with fail
        refine (BX.out _).mono ?_
        rintro e w8 ⟨rfl, hb8⟩
        have B8 : Hid (Below w.heap.size w w8) := Lib.hid (B7.out.trans (hb8.mono B7.out.size))
        clear hb8 B7
        go_wp2_with fail
        go_ret
        exact ⟨rfl, B8.out⟩
    · rcases HD.out with ⟨rfl, rfl, rfl⟩ | ⟨g1, g2, g3⟩
      · have r4 : ¬ (r : Int) < 4 := by omega
        obtain rfl : p = 0 := by have := HP.out; rw [if_neg h4] at this; exact this
        go_wp2_with fail
        refine (told9_any _).mono ?_
        rintro e w1 ⟨rfl, hb1⟩
        have B1 : Hid (Below w.heap.size w w1) := Lib.hid (B0.out.trans (hb1.mono B0.out.size))
        clear hb1 B0
        go_wp2_with fail
        refine (PX.out _).mono ?_
        rintro e w2 ⟨rfl, hb2⟩
        have B2 : Hid (Below w.heap.size w w2) := Lib.hid (B1.out.trans (hb2.mono B1.out.size))
        clear hb2 B1
        go_wp2_with fail
        refine (BX.out _).mono ?_
        rintro e w3 ⟨rfl, hb3⟩
        have B3 : Hid (Below w.heap.size w w3) := Lib.hid (B2.out.trans (hb3.mono B2.out.size))
        clear hb3 B2
        go_wp2_with fail
        refine (RX.out _).mono ?_
        rintro e w4 ⟨rfl, hb4⟩
        have B4 : Hid (Below w.heap.size w w4) := Lib.hid (B3.out.trans (hb4.mono B3.out.size))
        clear hb4 B3
        go_wp2_with fail
        refine (SX.out _).mono ?_
        rintro e w5 ⟨rfl, hb5⟩
        have B5 : Hid (Below w.heap.size w w5) := Lib.hid (B4.out.trans (hb5.mono B4.out.size))
        clear hb5 B4
        go_wp2_with fail
        refine (BX.out _).mono ?_
        rintro e w6 ⟨rfl, hb6⟩
        have B6 : Hid (Below w.heap.size w w6) := Lib.hid (B5.out.trans (hb6.mono B5.out.size))
        clear hb6 B5
        go_wp2_with fail
        refine (LX.out _).mono ?_
        rintro e w7 ⟨rfl, hb7⟩
        have B7 : Hid (Below w.heap.size w w7) := Lib.hid (B6.out.trans (hb7.mono B6.out.size))
        clear hb7 B6
        go_wp2_with fail
        refine (BX.out _).mono ?_
        rintro e w8 ⟨rfl, hb8⟩
        have B8 : Hid (Below w.heap.size w w8) := Lib.hid (B7.out.trans (hb8.mono B7.out.size))
        clear hb8 B7
        go_wp2_with fail
        go_ret
        exact ⟨rfl, B8.out⟩
      · have r4 : ¬ (r : Int) < 4 := by omega
        obtain rfl : p = 0 := by have := HP.out; rw [if_neg h4] at this; exact this
        have n1 : decide (0 < n) = true := decide_eq_true (by omega)
        have n2 : decide (0 < m) = true := decide_eq_true (by omega)
        have n3 : decide (0 < l) = true := decide_eq_true (by omega)
        go_wp2_with fail
        refine (told9_any _).mono ?_
        rintro e w1 ⟨rfl, hb1⟩
        have B1 : Hid (Below w.heap.size w w1) := Lib.hid (B0.out.trans (hb1.mono B0.out.size))
        clear hb1 B0
        go_wp2_with fail
        refine (PX.out _).mono ?_
        rintro e w2 ⟨rfl, hb2⟩
        have B2 : Hid (Below w.heap.size w w2) := Lib.hid (B1.out.trans (hb2.mono B1.out.size))
        clear hb2 B1
        go_wp2_with fail
        refine (BX.out _).mono ?_
        rintro e w3 ⟨rfl, hb3⟩
        have B3 : Hid (Below w.heap.size w w3) := Lib.hid (B2.out.trans (hb3.mono B2.out.size))
        clear hb3 B2
        go_wp2_with fail
        refine (RX.out _).mono ?_
        rintro e w4 ⟨rfl, hb4⟩
        have B4 : Hid (Below w.heap.size w w4) := Lib.hid (B3.out.trans (hb4.mono B3.out.size))
        clear hb4 B3
        go_wp2_with fail
        refine (SX.out _).mono ?_
        rintro e w5 ⟨rfl, hb5⟩
        have B5 : Hid (Below w.heap.size w w5) := Lib.hid (B4.out.trans (hb5.mono B4.out.size))
        clear hb5 B4
        go_wp2_with fail
        refine (BX.out _).mono ?_
        rintro e w6 ⟨rfl, hb6⟩
        have B6 : Hid (Below w.heap.size w w6) := Lib.hid (B5.out.trans (hb6.mono B5.out.size))
        clear hb6 B5
        go_wp2_with fail
        refine (LX.out _).mono ?_
        rintro e w7 ⟨rfl, hb7⟩
        have B7 : Hid (Below w.heap.size w w7) := Lib.hid (B6.out.trans (hb7.mono B6.out.size))
        clear hb7 B6
        go_wp2_with fail
        refine (BX.out _).mono ?_
        rintro e w8 ⟨rfl, hb8⟩
        have B8 : Hid (Below w.heap.size w w8) := Lib.hid (B7.out.trans (hb8.mono B7.out.size))
        clear hb8 B7
        go_wp2_with fail
        go_ret
        exact ⟨rfl, B8.out⟩
set_option maxRecDepth 100000 in
theorem lifted (os : Os) (started : os.Started) (H : Type) (enc : TypeId × Value → H) :
    ReturnsInHanded {} Try.checked os 5 .any (Rows.opsPrefixesSpec.pre6 enc Try.prog Try.f5 Rows.opsPrefixesRow.domain false) (Rows.opsPrefixesSpec.post enc Try.prog Try.f5 false true false false) := by
  refine returnsInHanded_of_change (C := Try.checked) ownKnobNone started (by kernel_rfl) Try.func5
    (ChangeSpec.witness6 (enc := enc) (C := Try.checked) false ⟨#[], #[.int .i64 0], []⟩ 8 (by kernel_rfl) (by kernel_rfl) (by kernel_rfl) (by kernel_rfl)) ?_
  intro W base args ds gs before hval0 hW hcnd _
  have hval : ∀ (j : Nat) t v, Try.f5.params[j]? = some t → args[j]? = some v → Value.okWide Try.prog W .any base t v := hval0
  have hW' := hW
  obtain ⟨p, q, hA0, hV, rfl, hfz, hnd⟩ := hW
  have hA : DataW.TrodAll enc Try.prog W 0 (fun _ => true) true Try.f5.params.toList args.toList ds p := hA0
  rw [Try.params5] at hA hval
  obtain ⟨v0, vs0, d0, ds0, p0, q0, hargs, rfl, rfl, h0, r0⟩ := trodAll_cons hA
  obtain ⟨rfl, rfl, rfl⟩ := trodAll_nil r0
  obtain rfl : args = #[v0] := by cases args; simp_all
  obtain ⟨rfl, rfl⟩ := trodVars_none hV
  obtain ⟨a0, rfl, rfl, rfl, w0⟩ := open_int Try.underlying3 (hval 0 3 v0 rfl rfl) h0
  clear hA0 hval0
  simp only [List.append_nil] at hW'
  refine (walk a0 W).mono fun e W' ⟨he, bel⟩ => ?_
  subst he
  exact ⟨_, rfl, _, _, _, [], _, [], hW', trodAll_mk1 (shut_bool Try.underlying4 _), (trodAll_cons_mk (shut_int Try.underlying3 w0) trodAll_mk0), rfl, bel.frame _, fun h => by cases h⟩
theorem over : Rows.OpsPrefixesSaid :=
  OpenClaim.holds_of_wide 5 Try.f5 rfl rfl rfl rfl rfl rfl rfl ⟨rfl, rfl, rfl, rfl, rfl⟩ rfl rfl rfl rfl rfl (by kernel_rfl) Try.func5 (by kernel_rfl)
    (of_decide_eq_true (by kernel_rfl)) (by unfold Func.isWrapper; first | (rw [if_pos (by decide +kernel)]; kernel_rfl) | (rw [if_neg (by decide +kernel)]; exact ⟨rfl, rfl⟩))
    (fun os started H enc _ => lifted os started H enc)
/-- THE STATEMENT. -/
theorem proved : Rows.OpsPrefixesSaid := over
#print axioms proved
end Go.Proofs.Ytbinennnddfplaa.opsPrefixes
