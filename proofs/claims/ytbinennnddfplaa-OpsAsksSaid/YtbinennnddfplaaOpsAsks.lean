/-
  Levels and sides are what the document says (promises 9.1, 9.2): for every text the statement OpsAsks returns true. No condition.
-/
import Derived.Test.YtbinennnddfplaaBase
import Derived.Test.YtbinennnddfplaaOpsTold
namespace Go.Proofs.Ytbinennnddfplaa.opsAsks
open Go.ChangeShapes Go.WideShapes Go.ChangeAt Go.RowKit Go.PlainAid

set_option maxRecDepth 100000 in
theorem walk (s : ByteArray) (_hm : s.size ≤ maxLen) (w : World) :
    Calls Try.prog 3 #[.string s] w fun e w' => e = .returned (.bool true) ∧ Below w.heap.size w w' := by
  clear _hm
  by_cases g1 : 20 < s.size
  · go_enter Try.func3, Try.ntmps3
    go_wp2_with fail
    refine (told9_any _).mono ?_
    rintro e w1 ⟨rfl, hb1⟩
    have B1 := Lib.hid hb1
    clear hb1
    go_wp2_with fail
    go_ret
    exact ⟨rfl, B1.out⟩
  have g1' : decide (20 < (s.size : Int)) = false := by simp; omega
  obtain ⟨bn1, hbn⟩ : ∃ n, n = bn s.toList := ⟨_, rfl⟩
  have Pbn := Lib.hid (fun W => pbin_is s bn1 hbn.symm W)
  have Rbn : Hid (∀ W, Calls Try.prog 8 #[.string s] W fun e w' => e = .returned (.int .i64 (bn1 : Int)) ∧ Below W.heap.size W w') := Lib.hid (fun W => by rw [hbn]; exact rbin_any s W)
  have ebn : ((bn1 : Int) == (bn1 : Int)) = true := beq_self_eq_true _
  clear hbn
  obtain ⟨sd1, hsd⟩ : ∃ n, n = sd s.toList := ⟨_, rfl⟩
  have Psd := Lib.hid (fun W => pside_is s sd1 hsd.symm W)
  have Rsd : Hid (∀ W, Calls Try.prog 10 #[.string s] W fun e w' => e = .returned (.int .i64 (sd1 : Int)) ∧ Below W.heap.size W w') := Lib.hid (fun W => by rw [hsd]; exact rside_any s W)
  have esd : ((sd1 : Int) == (sd1 : Int)) = true := beq_self_eq_true _
  clear hsd
  obtain ⟨pf1, hpf⟩ : ∃ n, n = pf s.toList := ⟨_, rfl⟩
  have Ppf := Lib.hid (fun W => pprefix_is s pf1 hpf.symm W)
  have Rpf : Hid (∀ W, Calls Try.prog 12 #[.string s] W fun e w' => e = .returned (.int .i64 (pf1 : Int)) ∧ Below W.heap.size W w') := Lib.hid (fun W => by rw [hpf]; exact rprefix_any s W)
  have epf : ((pf1 : Int) == (pf1 : Int)) = true := beq_self_eq_true _
  clear hpf
  obtain ⟨lf1, hlf⟩ : ∃ n, n = lf s.toList := ⟨_, rfl⟩
  have Plf := Lib.hid (fun W => pleft_is s lf1 hlf.symm W)
  have Rlf : Hid (∀ W, Calls Try.prog 14 #[.string s] W fun e w' => e = .returned (.int .i64 (lf1 : Int)) ∧ Below W.heap.size W w') := Lib.hid (fun W => by rw [hlf]; exact rleft_any s W)
  have elf : ((lf1 : Int) == (lf1 : Int)) = true := beq_self_eq_true _
  clear hlf
  obtain ⟨rt1, hrt⟩ : ∃ n, n = rt s.toList := ⟨_, rfl⟩
  have Prt := Lib.hid (fun W => pright_is s rt1 hrt.symm W)
  have Rrt : Hid (∀ W, Calls Try.prog 16 #[.string s] W fun e w' => e = .returned (.int .i64 (rt1 : Int)) ∧ Below W.heap.size W w') := Lib.hid (fun W => by rw [hrt]; exact rright_any s W)
  have ert : ((rt1 : Int) == (rt1 : Int)) = true := beq_self_eq_true _
  clear hrt
  go_enter Try.func3, Try.ntmps3
  go_wp2_with fail
  refine (told9_any _).mono ?_
  rintro e w1 ⟨rfl, hb1⟩
  have B1 := Lib.hid hb1
  clear hb1
  go_wp2_with fail
  refine (Pbn.out _).mono ?_
  rintro e w2 ⟨rfl, hb2⟩
  have B2 : Hid (Below w.heap.size w w2) := Lib.hid (B1.out.trans (hb2.mono B1.out.size))
  clear hb2 B1
  go_wp2_with fail
  refine (Rbn.out _).mono ?_
  rintro e w3 ⟨rfl, hb3⟩
  have B3 : Hid (Below w.heap.size w w3) := Lib.hid (B2.out.trans (hb3.mono B2.out.size))
  clear hb3 B2
  go_wp2_with fail
  refine (Psd.out _).mono ?_
  rintro e w4 ⟨rfl, hb4⟩
  have B4 : Hid (Below w.heap.size w w4) := Lib.hid (B3.out.trans (hb4.mono B3.out.size))
  clear hb4 B3
  go_wp2_with fail
  refine (Rsd.out _).mono ?_
  rintro e w5 ⟨rfl, hb5⟩
  have B5 : Hid (Below w.heap.size w w5) := Lib.hid (B4.out.trans (hb5.mono B4.out.size))
  clear hb5 B4
  go_wp2_with fail
  refine (Ppf.out _).mono ?_
  rintro e w6 ⟨rfl, hb6⟩
  have B6 : Hid (Below w.heap.size w w6) := Lib.hid (B5.out.trans (hb6.mono B5.out.size))
  clear hb6 B5
  go_wp2_with fail
  refine (Rpf.out _).mono ?_
  rintro e w7 ⟨rfl, hb7⟩
  have B7 : Hid (Below w.heap.size w w7) := Lib.hid (B6.out.trans (hb7.mono B6.out.size))
  clear hb7 B6
  go_wp2_with fail
  refine (Plf.out _).mono ?_
  rintro e w8 ⟨rfl, hb8⟩
  have B8 : Hid (Below w.heap.size w w8) := Lib.hid (B7.out.trans (hb8.mono B7.out.size))
  clear hb8 B7
  go_wp2_with fail
  refine (Rlf.out _).mono ?_
  rintro e w9 ⟨rfl, hb9⟩
  have B9 : Hid (Below w.heap.size w w9) := Lib.hid (B8.out.trans (hb9.mono B8.out.size))
  clear hb9 B8
  go_wp2_with fail
  refine (Prt.out _).mono ?_
  rintro e w10 ⟨rfl, hb10⟩
  have B10 : Hid (Below w.heap.size w w10) := Lib.hid (B9.out.trans (hb10.mono B9.out.size))
  clear hb10 B9
  go_wp2_with fail
  refine (Rrt.out _).mono ?_
  rintro e w11 ⟨rfl, hb11⟩
  have B11 : Hid (Below w.heap.size w w11) := Lib.hid (B10.out.trans (hb11.mono B10.out.size))
  clear hb11 B10
  go_wp2_with fail
  go_ret
  exact ⟨rfl, B11.out⟩
set_option maxRecDepth 100000 in
theorem lifted (os : Os) (started : os.Started) (H : Type) (enc : TypeId × Value → H) :
    ReturnsInHanded {} Try.checked os 3 .any (Rows.opsAsksSpec.pre6 enc Try.prog Try.f3 Rows.opsAsksRow.domain false) (Rows.opsAsksSpec.post enc Try.prog Try.f3 false true false false) := by
  refine returnsInHanded_of_change (C := Try.checked) ownKnobNone started (by kernel_rfl) Try.func3
    (ChangeSpec.witness6 (enc := enc) (C := Try.checked) false ⟨#[], #[.string ByteArray.empty], []⟩ 8 (by kernel_rfl) (by kernel_rfl) (by kernel_rfl) (by kernel_rfl)) ?_
  intro W base args ds gs before hval0 hW hcnd _
  have hval : ∀ (j : Nat) t v, Try.f3.params[j]? = some t → args[j]? = some v → Value.okWide Try.prog W .any base t v := hval0
  have hW' := hW
  obtain ⟨p, q, hA0, hV, rfl, hfz, hnd⟩ := hW
  have hA : DataW.TrodAll enc Try.prog W 0 (fun _ => true) true Try.f3.params.toList args.toList ds p := hA0
  rw [Try.params3] at hA hval
  obtain ⟨v0, vs0, d0, ds0, p0, q0, hargs, rfl, rfl, h0, r0⟩ := trodAll_cons hA
  obtain ⟨rfl, rfl, rfl⟩ := trodAll_nil r0
  obtain rfl : args = #[v0] := by cases args; simp_all
  obtain ⟨rfl, rfl⟩ := trodVars_none hV
  obtain ⟨a0, rfl, rfl, rfl, w0⟩ := Go.ChangeMaps.open_string Try.underlying9 (hval 0 9 v0 rfl rfl) h0
  clear hA0 hval0
  simp only [List.append_nil] at hW'
  refine (walk a0 w0 W).mono fun e W' ⟨he, bel⟩ => ?_
  subst he
  exact ⟨_, rfl, _, _, _, [], _, [], hW', trodAll_mk1 (shut_bool Try.underlying4 _), (trodAll_cons_mk (Go.ChangeMaps.shut_string Try.underlying9 w0) trodAll_mk0), rfl, bel.frame _, fun h => by cases h⟩
theorem over : Rows.OpsAsksSaid :=
  OpenClaim.holds_of_wide 3 Try.f3 rfl rfl rfl rfl rfl rfl rfl ⟨rfl, rfl, rfl, rfl, rfl⟩ rfl rfl rfl rfl rfl (by kernel_rfl) Try.func3 (by kernel_rfl)
    (of_decide_eq_true (by kernel_rfl)) (by unfold Func.isWrapper; first | (rw [if_pos (by decide +kernel)]; kernel_rfl) | (rw [if_neg (by decide +kernel)]; exact ⟨rfl, rfl⟩))
    (fun os started H enc _ => lifted os started H enc)
/-- THE STATEMENT. -/
theorem proved : Rows.OpsAsksSaid := over
#print axioms proved
end Go.Proofs.Ytbinennnddfplaa.opsAsks
