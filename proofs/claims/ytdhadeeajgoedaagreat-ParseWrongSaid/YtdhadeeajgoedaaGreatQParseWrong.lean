/-
  What has no derivation has none (promises 13.1, 13.2): for every integer the statement ParseWrong returns true. No condition.
-/
import Derived.Test.YtdhadeeajgoedaaGreatK04
import Derived.Test.YtdhadeeajgoedaaGreatK54
import Derived.Deep.CutRange
import Derived.BigRegion
import Derived.BigQuiet
set_option maxRecDepth 100000
set_option linter.unusedVariables false
set_option linter.unusedSimpArgs false
namespace Go.Proofs.YtdhadeeajgoedaaGreat.parseWrong
open Go.ChangeShapes Go.WideShapes Go.ChangeAt Go.RowKit Go.PlainAid
def wrl : List (List UInt8) := [[], [97, 32, 98], [97, 32, 43], [43], [40, 97], [97, 41], [123, 97, 44, 125], [91, 97, 44, 93], [91, 97, 32, 124, 32, 98, 44, 32, 99, 93], [91, 124, 32, 97, 93], [102, 40], [102, 40, 97, 32, 98, 41], [99, 97, 115, 101, 32, 97, 32, 111, 102, 32, 101, 110, 100], [99, 97, 115, 101, 32, 97, 32, 98, 32, 45, 62, 32, 99, 32, 101, 110, 100], [105, 102, 32, 97, 32, 101, 110, 100], [102, 117, 110, 32, 101, 110, 100], [102, 117, 110, 40, 88, 41, 32, 101, 110, 100], [102, 117, 110, 32, 102], [102, 117, 110, 32, 102, 47], [114, 101, 99, 101, 105, 118, 101, 32, 101, 110, 100], [98, 101, 103, 105, 110, 32, 101, 110, 100], [97, 32, 61, 61, 32, 98, 32, 61, 61, 32, 99], [49, 40, 50, 41], [34, 97, 34, 32, 34, 98, 34], [35, 123], [35, 114], [88, 35, 114], [88, 35, 114, 46, 70], [60, 60, 97, 43, 98, 62, 62], [60, 60, 88, 58, 102, 62, 62], [97, 58], [97, 58, 49], [91, 97, 32, 124, 124, 32, 93], [123, 97, 32, 61, 62, 32, 98, 125], [35, 123, 97, 32, 61, 62, 32, 98, 32, 61, 62, 32, 99, 125], [97, 32, 60, 45, 32, 98], [102, 117, 110, 40, 97, 41, 32, 45, 62, 32, 98, 59, 32, 101, 110, 100], [110, 111, 116], [99, 97, 116, 99, 104], [97, 32, 61, 32, 99, 97, 116, 99, 104, 32, 98], [119, 104, 101, 110], [101, 110, 100], [97, 44, 32, 98], [102, 40, 120, 41, 58, 103], [49, 58, 97], [40, 97]]
theorem qw6 : ∀ k : Fin 46, (whF ⟨(wrl.getD k.val []).toArray⟩).2 = 8 ∧ (wrl.getD k.val []).length ≤ 100 := by decide +kernel
theorem qsw (w : World) (t : TypeId) (cs : Array Value) (k : Nat) (hk : k < 46) (h : cs = (wrl.map fun l => Value.string ⟨l.toArray⟩).toArray) : (w.alloc (.cells cs t)).cell? ⟨w.heap.size, k, none⟩ = some (.string ⟨(wrl.getD k []).toArray⟩) := by
  rw [World.cell?_alloc_new, h, List.getElem?_toArray, List.getElem?_map]
  have : wrl[k]? = some (wrl.getD k []) := by
    rw [List.getD, List.getElem?_eq_getElem (by exact hk)]; rfl
  rw [this]; rfl
theorem mod_lt (x : Int) : ∃ r : Nat, r < 46 ∧ (IntKind.u64.wrap x).tmod 46 = (r : Int) := by
  have := IntKind.wrap_u64 x
  have h0 := Int.tmod_nonneg (a := IntKind.u64.wrap x) 46 (by omega)
  have h1 := Int.tmod_lt_of_pos (IntKind.u64.wrap x) (b := 46) (by omega)
  have h2 := Int.toNat_of_nonneg h0
  exact ⟨((IntKind.u64.wrap x).tmod 46).toNat, by omega, h2.symm⟩
set_option maxRecDepth 100000 in
set_option maxHeartbeats 4000000 in
theorem walk (x : Int) (w : World) :
    Calls Tryz.prog 7 #[.int .i64 x] w fun e w' => e = .returned (.bool true) ∧ Below w.heap.size w w' := by
  obtain ⟨r, hr, er⟩ := mod_lt x
  obtain ⟨h8, hz⟩ := qw6 ⟨r, hr⟩
  simp only at h8 hz
  have CX := Lib.hid (fun (W : World) t cs h => qsw W t cs r hr h)
  have HW := Lib.hid (fun W => qgi ⟨(wrl.getD r []).toArray⟩ (by rw [ByteArray.size]; show (wrl.getD r []).toArray.size ≤ _; rw [List.size_toArray]; omega) W)
  have H8 : Hid ((whP ⟨(wrl.getD r []).toArray⟩).2 = 8) := Lib.hid (by rw [whP_F]; exact h8)
  obtain ⟨X, hX⟩ : ∃ X : ByteArray, X = ⟨(wrl.getD r []).toArray⟩ := ⟨_, rfl⟩
  rw [← hX] at CX HW H8
  have HT := Lib.hid qez
  clear h8 hz hX
  go_enter Tryz.func7, Tryz.ntmps7
  go_upto_region 1 with fail
  go_cut [3] from 6 to 6 (fun v wx => v = .slice (some ⟨w.heap.size, 0, none⟩) 46 46 ∧ Hid (wx.cell? ⟨w.heap.size, r, none⟩ = some (.string X)) ∧ Hid (Below w.heap.size w wx))
  case first =>
    go_wp2_with fail
    go_meet
    exact ⟨rfl, Lib.hid (CX.out _ _ _ rfl), Lib.hid (qa1 _ _)⟩
  case rest =>
    obtain ⟨rfl, HA, HB⟩ := hcut
    have cX := HA.out
    go_wp2_with fail
    refine (HW.out _).mono ?_
    rintro e w1 ⟨hb1, c, rfl, hn1⟩
    obtain ⟨ka, kc, na, nc, va, vc, rfl, -, -, -⟩ := qdf hn1
    rw [H8.out]
    have B1 : Hid (Below w.heap.size w w1) := Lib.hid (HB.out.trans (hb1.mono HB.out.size))
    clear hb1 hn1 cX
    go_wp2_with fail
    refine (HT.out _).mono ?_
    rintro e w2 ⟨rfl, hb2⟩
    have B2 : Hid (Below w.heap.size w w2) := Lib.hid ((B1.out.alloc B1.out.size _).trans (hb2.mono (by have := B1.out.size; simp; omega)))
    clear hb2
    go_wp2_with fail
    go_ret
    exact ⟨rfl, B2.out⟩
set_option maxRecDepth 100000 in
theorem qim (os : Os) (started : os.Started) (H : Type) (enc : TypeId × Value → H) :
    ReturnsInHanded {} Tryz.checked os 7 .any (Rows.parseWrongSpec.pre6 enc Tryz.prog Tryz.f7 Rows.parseWrongRow.domain false) (Rows.parseWrongSpec.post enc Tryz.prog Tryz.f7 false true false false) := by
  refine returnsInHanded_of_change (C := Tryz.checked) qe0 started (by kernel_rfl) Tryz.func7
    (ChangeSpec.witness6 (enc := enc) (C := Tryz.checked) false ⟨#[], #[.int .i64 0], []⟩ 8 (by kernel_rfl) (by kernel_rfl) (by kernel_rfl) (by kernel_rfl)) ?_
  intro W base args ds gs before hval0 hW hcnd _
  have hval : ∀ (j : Nat) t v, Tryz.f7.params[j]? = some t → args[j]? = some v → Value.okWide Tryz.prog W .any base t v := hval0
  have hW' := hW
  obtain ⟨p, q, hA0, hV, rfl, hfz, hnd⟩ := hW
  have hA : DataW.TrodAll enc Tryz.prog W 0 (fun _ => true) true Tryz.f7.params.toList args.toList ds p := hA0
  rw [Tryz.params7] at hA hval
  obtain ⟨v0, vs0, d0, ds0, p0, q0, hargs, rfl, rfl, h0, r0⟩ := trodAll_cons hA
  obtain ⟨rfl, rfl, rfl⟩ := trodAll_nil r0
  obtain rfl : args = #[v0] := by cases args; simp_all
  obtain ⟨rfl, rfl⟩ := trodVars_none hV
  obtain ⟨a0, rfl, rfl, rfl, w0⟩ := open_int Tryz.underlying3 (hval 0 3 v0 rfl rfl) h0
  clear hA0 hval0
  simp only [List.append_nil] at hW'
  refine (walk a0 W).mono fun e W' ⟨he, bel⟩ => ?_
  subst he
  exact ⟨_, rfl, _, _, _, [], _, [], hW', trodAll_mk1 (shut_bool Tryz.underlying4 _), (trodAll_cons_mk (shut_int Tryz.underlying3 w0) trodAll_mk0), rfl, bel.frame _, fun h => by cases h⟩
theorem over : Rows.ParseWrongSaid :=
  OpenClaim.holds_of_wide 7 Tryz.f7 rfl rfl rfl rfl rfl rfl rfl ⟨rfl, rfl, rfl, rfl, rfl⟩ rfl rfl rfl rfl rfl (by kernel_rfl) Tryz.func7 (by kernel_rfl)
    (of_decide_eq_true (by kernel_rfl)) (by unfold Func.isWrapper; first | (rw [if_pos (by decide +kernel)]; kernel_rfl) | (rw [if_neg (by decide +kernel)]; exact ⟨rfl, rfl⟩))
    (fun os started H enc _ => qim os started H enc)
theorem proved : Rows.ParseWrongSaid := over
#print axioms proved
end Go.Proofs.YtdhadeeajgoedaaGreat.parseWrong
