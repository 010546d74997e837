/-
  An operator's operand that is an operator needs parentheses just on the sides where it would be read otherwise (promises 18.1, 9.2): for every two integers the statement ParensOps returns true. No condition.
-/
import Derived.Test.YtbjgoigdhijbgaaBase
import Derived.Test.YtbjgoigdhijbgaaPrnTold
import Derived.Deep.CutRange
import Derived.BigRegion
import Derived.BigQuiet
namespace Go.Proofs.Ytbjgoigdhijbgaa.parensOps
open Go.ChangeShapes Go.WideShapes Go.ChangeAt Go.RowKit Go.PlainAid

/-- The operators. -/
def opl : List (List UInt8) := [[58, 58], [124], [61], [33], [111, 114, 101, 108, 115, 101], [97, 110, 100, 97, 108, 115, 111], [61, 61], [47, 61], [61, 60], [60], [62, 61], [62], [61, 58, 61], [61, 47, 61], [43, 43], [45, 45], [43], [45], [98, 111, 114], [98, 120, 111, 114], [98, 115, 108], [98, 115, 114], [111, 114], [120, 111, 114], [42], [47], [100, 105, 118], [114, 101, 109], [98, 97, 110, 100], [97, 110, 100]]
theorem opl_all : ∀ k : Fin 30, 1 ≤ bn (opl.getD k.val []) := by decide +kernel
theorem opl_cell (w : World) (t : TypeId) (cs : Array Value) (k : Nat) (hk : k < 30) (h : cs = (opl.map fun l => Value.string ⟨l.toArray⟩).toArray) : (w.alloc (.cells cs t)).cell? ⟨w.heap.size, k, none⟩ = some (.string ⟨(opl.getD k []).toArray⟩) := by
  rw [World.cell?_alloc_new, h, List.getElem?_toArray, List.getElem?_map]
  have : opl[k]? = some (opl.getD k []) := by
    rw [List.getD, List.getElem?_eq_getElem (by exact hk)]; rfl
  rw [this]; rfl
theorem bytes_list (X : List UInt8) : (⟨X.toArray⟩ : ByteArray).toList = X := by simp
theorem dup {x : List UInt8} (h : 1 ≤ bn x) : (sd x = 1 ∧ lf x = bn x ∧ rt x = bn x + 1) ∨ (sd x = 2 ∧ lf x = bn x + 1 ∧ rt x = bn x) ∨ (sd x = 3 ∧ lf x = bn x + 1 ∧ rt x = bn x + 1) := by
  have h0 : 0 < bn x := h
  unfold lf rt
  rcases sd_of x h with e | e | e <;> rw [e, decide_eq_true h0] <;> simp
theorem mod_lt (x : Int) : ∃ r : Nat, r < 30 ∧ (IntKind.u64.wrap x).tmod 30 = (r : Int) := by
  have := IntKind.wrap_u64 x
  have h0 := Int.tmod_nonneg (a := IntKind.u64.wrap x) 30 (by omega)
  have h1 := Int.tmod_lt_of_pos (IntKind.u64.wrap x) (b := 30) (by omega)
  have h2 := Int.toNat_of_nonneg h0
  exact ⟨((IntKind.u64.wrap x).tmod 30).toNat, by omega, h2.symm⟩
set_option maxRecDepth 100000 in
set_option maxHeartbeats 8000000 in
theorem walk (x y : Int) (w : World) :
    Calls Try.prog 4 #[.int .i64 x, .int .i64 y] w fun e w' => e = .returned (.bool true) ∧ Below w.heap.size w w' := by
  obtain ⟨r, hr, er⟩ := mod_lt x
  obtain ⟨q, hq, eq⟩ := mod_lt y
  have hx1 := opl_all ⟨r, hr⟩
  simp only at hx1
  have CX := Lib.hid (fun (W : World) t cs h => opl_cell W t cs r hr h)
  have CY := Lib.hid (fun (W : World) t cs h => opl_cell W t cs q hq h)
  obtain ⟨X, hX⟩ : ∃ X, X = opl.getD r [] := ⟨_, rfl⟩
  obtain ⟨Y, hY⟩ : ∃ Y, Y = opl.getD q [] := ⟨_, rfl⟩
  rw [← hX] at CX hx1
  rw [← hY] at CY
  clear hX hY
  have hd := dup hx1
  obtain ⟨p, hp⟩ : ∃ n, n = bn X := ⟨_, rfl⟩
  obtain ⟨u, hu⟩ : ∃ n, n = bn Y := ⟨_, rfl⟩
  obtain ⟨sx, hsx⟩ : ∃ n, n = sd X := ⟨_, rfl⟩
  obtain ⟨l, hl⟩ : ∃ n, n = lf X := ⟨_, rfl⟩
  obtain ⟨t, ht⟩ : ∃ n, n = rt X := ⟨_, rfl⟩
  have hlv : lvlI 14 ⟨Y.toArray⟩ = u := by rw [hu]; exact ((if_neg (by decide)).trans (if_pos rfl)).trans (by rw [bytes_list])
  have PX : Hid (∀ W, Calls Try.prog 15 #[.string ⟨X.toArray⟩] W fun e w' => e = .returned (.int .i64 (p : Int)) ∧ Below W.heap.size W w') := Lib.hid (fun W => by have := rbin_any ⟨X.toArray⟩ W; rw [bytes_list, ← hp] at this; exact this)
  have PY : Hid (∀ W, Calls Try.prog 15 #[.string ⟨Y.toArray⟩] W fun e w' => e = .returned (.int .i64 (u : Int)) ∧ Below W.heap.size W w') := Lib.hid (fun W => by have := rbin_any ⟨Y.toArray⟩ W; rw [bytes_list, ← hu] at this; exact this)
  have SX : Hid (∀ W, Calls Try.prog 18 #[.string ⟨X.toArray⟩] W fun e w' => e = .returned (.int .i64 (sx : Int)) ∧ Below W.heap.size W w') := Lib.hid (fun W => by have := rside_any ⟨X.toArray⟩ W; rw [bytes_list, ← hsx] at this; exact this)
  have LX : Hid (∀ W, Calls Try.prog 16 #[.string ⟨X.toArray⟩] W fun e w' => e = .returned (.int .i64 (l : Int)) ∧ Below W.heap.size W w') := Lib.hid (fun W => by have := rleft_any ⟨X.toArray⟩ W; rw [bytes_list, ← hl] at this; exact this)
  have RX : Hid (∀ W, Calls Try.prog 17 #[.string ⟨X.toArray⟩] W fun e w' => e = .returned (.int .i64 (t : Int)) ∧ Below W.heap.size W w') := Lib.hid (fun W => by have := rright_any ⟨X.toArray⟩ W; rw [bytes_list, ← ht] at this; exact this)
  rw [← hp, ← hsx, ← hl, ← ht] at hd
  rw [← hp] at hx1
  clear hp hu hsx hl ht
  obtain ⟨bl, hbl⟩ : ∃ b, b = decide ((u : Int) < (l : Int)) := ⟨_, rfl⟩
  obtain ⟨br, hbr⟩ : ∃ b, b = decide ((u : Int) < (t : Int)) := ⟨_, rfl⟩
  obtain ⟨S, hS⟩ : ∃ S : ByteArray, S = ⟨X.toArray⟩ := ⟨_, rfl⟩
  obtain ⟨T, hT⟩ : ∃ S : ByteArray, S = ⟨Y.toArray⟩ := ⟨_, rfl⟩
  rw [← hS] at CX PX SX LX RX
  rw [← hT] at CY PY hlv
  have NL := Lib.hid (fun W => pneed_is 14 T (l : Int) bl (by rw [hlv, hbl]) (.slice none 0 0) (.bool false) (.bool false) (.slice none 0 0) (.slice none 0 0) W)
  have NR := Lib.hid (fun W => pneed_is 14 T (t : Int) br (by rw [hlv, hbr]) (.slice none 0 0) (.bool false) (.bool false) (.slice none 0 0) (.slice none 0 0) W)
  have hfin : (u < p ∧ bl = true ∧ br = true) ∨ (p < u ∧ bl = false ∧ br = false) ∨ (u = p ∧ ((sx = 1 ∧ bl = false ∧ br = true) ∨ (sx = 2 ∧ bl = true ∧ br = false) ∨ (sx = 3 ∧ bl = true ∧ br = true))) := by
    rw [hbl, hbr]
    simp only [decide_eq_true_eq, decide_eq_false_iff_not]
    omega
  have HF := Lib.hid hfin
  clear hS hT hlv hfin hd hx1 hbl hbr
  go_enter Try.func4, Try.ntmps4
  go_upto_region 1 with fail
  go_cut [5] from 13 to 13 (fun v wx => v = .slice (some ⟨w.heap.size, 0, none⟩) 30 30 ∧ Hid (∃ t cs, wx = w.alloc (.cells cs t) ∧ cs = (opl.map fun l => Value.string ⟨l.toArray⟩).toArray))
  case first =>
    go_wp2_with fail
    go_meet
    exact ⟨rfl, Lib.hid ⟨_, _, rfl, rfl⟩⟩
  case rest =>
    obtain ⟨rfl, HW⟩ := hcut
    have B0 : Hid (Below w.heap.size w wc) := Lib.hid (by obtain ⟨_, _, h, -⟩ := HW.out; rw [h]; exact below1 _ _)
    have c1 : wc.cell? ⟨w.heap.size, r, none⟩ = some (.string S) := by obtain ⟨_, _, h, h2⟩ := HW.out; rw [h]; exact CX.out _ _ _ h2
    have c2 : wc.cell? ⟨w.heap.size, q, none⟩ = some (.string T) := by obtain ⟨_, _, h, h2⟩ := HW.out; rw [h]; exact CY.out _ _ _ h2
    have r1 : (0 : Int) ≤ (r : Int) := by omega
    have r2 : (r : Int) < 30 := by omega
    have q1 : (0 : Int) ≤ (q : Int) := by omega
    have q2 : (q : Int) < 30 := by omega
    clear HW CX CY
    go_wp2_with fail
    go_quiet (fail)
    obtain ⟨wd, hwd⟩ : ∃ wd, wd = wc.drewN nq := ⟨_, rfl⟩
    have B1 : Hid (Below w.heap.size w wd) := Lib.hid (by rw [hwd]; exact (B0.out.trans ((drew_below wc nq).mono B0.out.size)))
    rw [← hwd]
    clear hwd B0 c1 c2 r1 r2 q1 q2 er eq
    go_upto_region 4 with fail
    obtain ⟨V, hV⟩ : ∃ V, V = wd.alloc (.cells #[.int .i64 14, .string T, .slice none 0 0, .bool false, .bool false, .slice none 0 0, .slice none 0 0] 25) := ⟨_, rfl⟩
    have hbV : Below wd.heap.size wd V := by rw [hV]; exact below1 _ _
    have ha : V.heap[wd.heap.size]? = some (.cells #[.int .i64 14, .string T, .slice none 0 0, .bool false, .bool false, .slice none 0 0, .slice none 0 0] 25) := by rw [hV]; exact alloc_at9 wd _
    rw [← hV]
    obtain ⟨nb, hnb⟩ : ∃ n, n = wd.heap.size := ⟨_, rfl⟩
    rw [← hnb] at ha ⊢
    have CC : Hid (∀ W, Below V.heap.size V W → (W.cell? ⟨nb, 0, none⟩ = some (.int .i64 14) ∧ W.cell? ⟨nb, 1, none⟩ = some (.string T) ∧ W.cell? ⟨nb, 2, none⟩ = some (.slice none 0 0) ∧ W.cell? ⟨nb, 3, none⟩ = some (.bool false) ∧ W.cell? ⟨nb, 4, none⟩ = some (.bool false) ∧ W.cell? ⟨nb, 5, none⟩ = some (.slice none 0 0) ∧ W.cell? ⟨nb, 6, none⟩ = some (.slice none 0 0)) ∧ Hid (Below V.heap.size V W)) := Lib.hid (fun W (hb : Below V.heap.size V W) => ⟨nd7_of ((hb.block _ (lt_of_block ha)).trans ha), Lib.hid hb⟩)
    have HBV : Hid (Below w.heap.size w V) := Lib.hid (B1.out.trans (hbV.mono B1.out.size))
    clear hV hbV ha hnb B1
    go_wp2_with fail
    refine (PX.out _).mono ?_
    rintro e w2 ⟨rfl, hb2⟩
    have HB2 := Lib.hid hb2
    clear hb2
    go_wp2_with fail
    refine (PY.out _).mono ?_
    rintro e w3 ⟨rfl, hb3⟩
    have hb : Below V.heap.size V w3 := HB2.out.trans (hb3.mono HB2.out.size)
    clear hb3 HB2
    have hd3 := (CC.out _ (Below.drew hb)).1
    have HB3 := Lib.hid hb
    clear hb
    go_wp2_with fail
    have K0 := Lib.hid (fun (W W' : World) (h : Below W.heap.size W W') (h2 : Below V.heap.size V W) => h2.trans (h.mono h2.size))
    have hz3 := Below.drew HB3.out
    go_region_held3 (fun W => (W.cell? ⟨nb, 0, none⟩ = some (.int .i64 14) ∧ W.cell? ⟨nb, 1, none⟩ = some (.string T) ∧ W.cell? ⟨nb, 2, none⟩ = some (.slice none 0 0) ∧ W.cell? ⟨nb, 3, none⟩ = some (.bool false) ∧ W.cell? ⟨nb, 4, none⟩ = some (.bool false) ∧ W.cell? ⟨nb, 5, none⟩ = some (.slice none 0 0) ∧ W.cell? ⟨nb, 6, none⟩ = some (.slice none 0 0))) (first | exact hd3 | exact (CC.out _ ht5).1 | exact (CC.out _ ht4).1) (first
      | (go_at_call 16; refine (LX.out _).mono ?_; rintro e w4 ⟨rfl, ht⟩; have ht4 := K0.out _ _ ht hz3)
      | (go_at_call 13; refine (NL.out _).mono ?_; rintro e w5 ⟨rfl, ht⟩; have ht5 := K0.out _ _ ht ht4))
    have HB5 := Lib.hid ht5
    clear ht4 ht5 ht hz3 hd3 HB3
    have hd5 := (CC.out _ (Below.drew HB5.out)).1
    go_wp2_with fail
    have hz3 := Below.drew HB5.out
    go_region_held3 (fun W => (W.cell? ⟨nb, 0, none⟩ = some (.int .i64 14) ∧ W.cell? ⟨nb, 1, none⟩ = some (.string T) ∧ W.cell? ⟨nb, 2, none⟩ = some (.slice none 0 0) ∧ W.cell? ⟨nb, 3, none⟩ = some (.bool false) ∧ W.cell? ⟨nb, 4, none⟩ = some (.bool false) ∧ W.cell? ⟨nb, 5, none⟩ = some (.slice none 0 0) ∧ W.cell? ⟨nb, 6, none⟩ = some (.slice none 0 0))) (first | exact hd5 | exact (CC.out _ ht7).1 | exact (CC.out _ ht6).1) (first
      | (go_at_call 17; refine (RX.out _).mono ?_; rintro e w6 ⟨rfl, ht⟩; have ht6 := K0.out _ _ ht hz3)
      | (go_at_call 13; refine (NR.out _).mono ?_; rintro e w7 ⟨rfl, ht⟩; have ht7 := K0.out _ _ ht ht6))
    have HB7 := Lib.hid (HBV.out.trans (ht7.mono HBV.out.size))
    clear ht6 ht7 ht hz3 hd5 HB5
    go_wp2_with fail
    refine (told18_any _).mono ?_
    rintro e w8 ⟨rfl, hb8⟩
    have HB8 := Lib.hid (HB7.out.trans (hb8.mono HB7.out.size))
    clear hb8 HB7
    rcases HF.out with ⟨h1, rfl, rfl⟩ | ⟨h1, rfl, rfl⟩ | ⟨rfl, h1⟩
    · have h2 : decide ((u : Int) < (p : Int)) = true := decide_eq_true (by omega)
      have h3 : (u : Int) < (p : Int) := by omega
      clear h1
      go_wp2_with fail
      go_ret
      exact ⟨by first | rfl | (simp; done) | (simp; omega), HB8.out⟩
    · have h3 : ¬ (u : Int) < (p : Int) := by omega
      have h4 : ((u : Int) == (p : Int)) = false := beq_false_of_ne (by omega)
      have h5 : (p : Int) ≤ (u : Int) := by omega
      clear h1
      go_wp2_with fail
      go_ret
      exact ⟨by first | rfl | (simp; done) | (simp; omega), HB8.out⟩
    · have h4 : ((u : Int) == (u : Int)) = true := beq_self_eq_true _
      rcases h1 with ⟨rfl, rfl, rfl⟩ | ⟨rfl, rfl, rfl⟩ | ⟨rfl, rfl, rfl⟩
      all_goals
        go_wp2_with fail
        refine (SX.out _).mono ?_
        rintro e w9 ⟨rfl, hb9⟩
        have HB9 := Lib.hid (HB8.out.trans (hb9.mono HB8.out.size))
        clear hb9
        go_wp2_with fail
        refine (SX.out _).mono ?_
        rintro e w10 ⟨rfl, hb10⟩
        have HB10 := Lib.hid (HB9.out.trans (hb10.mono HB9.out.size))
        clear hb10
        go_wp2_with fail
        go_ret
        exact ⟨rfl, HB10.out⟩
set_option maxRecDepth 100000 in
theorem lifted (os : Os) (started : os.Started) (H : Type) (enc : TypeId × Value → H) :
    ReturnsInHanded {} Try.checked os 4 .any (Rows.parensOpsSpec.pre6 enc Try.prog Try.f4 Rows.parensOpsRow.domain false) (Rows.parensOpsSpec.post enc Try.prog Try.f4 false true false false) := by
  refine returnsInHanded_of_change (C := Try.checked) ownKnobNone started (by kernel_rfl) Try.func4
    (ChangeSpec.witness6 (enc := enc) (C := Try.checked) false ⟨#[], #[.int .i64 0, .int .i64 0], []⟩ 8 (by kernel_rfl) (by kernel_rfl) (by kernel_rfl) (by kernel_rfl)) ?_
  intro W base args ds gs before hval0 hW hcnd _
  have hval : ∀ (j : Nat) t v, Try.f4.params[j]? = some t → args[j]? = some v → Value.okWide Try.prog W .any base t v := hval0
  have hW' := hW
  obtain ⟨p, q, hA0, hV, rfl, hfz, hnd⟩ := hW
  have hA : DataW.TrodAll enc Try.prog W 0 (fun _ => true) true Try.f4.params.toList args.toList ds p := hA0
  rw [Try.params4] at hA hval
  obtain ⟨v0, vs0, d0, ds0, p0, q0, hargs, rfl, rfl, h0, r0⟩ := trodAll_cons hA
  obtain ⟨v1, vs1, d1, ds1, p1, q1, rfl, rfl, rfl, h1, r1⟩ := trodAll_cons r0
  obtain ⟨rfl, rfl, rfl⟩ := trodAll_nil r1
  obtain rfl : args = #[v0, v1] := by cases args; simp_all
  obtain ⟨rfl, rfl⟩ := trodVars_none hV
  obtain ⟨a0, rfl, rfl, rfl, w0⟩ := open_int Try.underlying3 (hval 0 3 v0 rfl rfl) h0
  obtain ⟨a1, rfl, rfl, rfl, w1⟩ := open_int Try.underlying3 (hval 1 3 v1 rfl rfl) h1
  clear hA0 hval0
  simp only [List.append_nil] at hW'
  refine (walk a0 a1 W).mono fun e W' ⟨he, bel⟩ => ?_
  subst he
  exact ⟨_, rfl, _, _, _, [], _, [], hW', trodAll_mk1 (shut_bool Try.underlying4 _), (trodAll_cons_mk (shut_int Try.underlying3 w0) (trodAll_cons_mk (shut_int Try.underlying3 w1) trodAll_mk0)), rfl, bel.frame _, fun h => by cases h⟩
theorem over : Rows.ParensOpsSaid :=
  OpenClaim.holds_of_wide 4 Try.f4 rfl rfl rfl rfl rfl rfl rfl ⟨rfl, rfl, rfl, rfl, rfl⟩ rfl rfl rfl rfl rfl (by kernel_rfl) Try.func4 (by kernel_rfl)
    (of_decide_eq_true (by kernel_rfl)) (by unfold Func.isWrapper; first | (rw [if_pos (by decide +kernel)]; kernel_rfl) | (rw [if_neg (by decide +kernel)]; exact ⟨rfl, rfl⟩))
    (fun os started H enc _ => lifted os started H enc)
/-- THE STATEMENT. -/
theorem proved : Rows.ParensOpsSaid := over
#print axioms proved
end Go.Proofs.Ytbjgoigdhijbgaa.parensOps
