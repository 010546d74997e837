/-
  A name begins with a small letter and goes on with inner bytes: then it is plain, but where it is reserved; with one byte put in behind its first one it is plain or reserved just if that byte is inner (promise 3.1): for every list of integers, every integer and every byte the statement WordNames returns true. No condition.
-/
import Derived.Test.YtjlimnmcaganfaaIsRow
import Derived.Test.YtjlimnmcaganfaaConv
import Derived.Test.YtjlimnmcaganfaaWordTold
import Derived.Test.YtjlimnmcaganfaaWordMore
import Derived.Test.YtjlimnmcaganfaaRefWord
import Derived.BigRegion
namespace Go.Proofs.Ytjlimnmcaganfaa.wordNames
open Go.ChangeShapes Go.WideShapes Go.ChangeAt Go.RowKit Go.PlainAid

set_option maxRecDepth 100000 in
set_option maxHeartbeats 4000000 in
theorem walk (a : Option Addr) (len cap : Nat) (zs : List Int) (i : Int) (c : Int) (hc : 0 ≤ c ∧ c ≤ 255) (w : World) (hr : IsRow w a len cap zs) :
    Calls Try.prog 6 #[.slice a len cap, .int .i64 i, .int .u8 c] w fun e w' => e = .returned (.bool true) ∧ Below w.heap.size w w' := by
  by_cases g0 : len < 1
  · obtain rfl : len = 0 := by omega
    clear hr g0
    go_enter Try.func6, Try.ntmps6
    go_wp2_with fail
    refine (told3_any _).mono ?_
    rintro e w1 ⟨rfl, n1, rfl⟩
    go_wp2
    go_ret
    exact ⟨rfl, drew_below _ _⟩
  have g0' : decide ((len : Int) < 1) = false := by simp; omega
  by_cases g1 : 20 < len
  · clear hr
    go_enter Try.func6, Try.ntmps6
    go_wp2_with fail
    refine (told3_any _).mono ?_
    rintro e w1 ⟨rfl, n1, rfl⟩
    go_wp2
    go_ret
    exact ⟨rfl, drew_below _ _⟩
  obtain ⟨b, off, rfl, hb, hcell⟩ := hr.at (by omega)
  have HC := Lib.hid hcell
  clear hr hcell
  have g2 : 0 < len := by omega
  have g1' : decide (20 < (len : Int)) = false := by simp; omega
  have c0 := HC.out 0 g2
  rw [Nat.add_zero] at c0
  obtain ⟨z0, hz0⟩ : ∃ z, z = zs.getD 0 0 := ⟨_, rfl⟩
  rw [← hz0] at c0
  clear hz0 g0
  obtain ⟨d, hd, ed⟩ : ∃ d : Nat, d < 26 ∧ (IntKind.u64.wrap z0).tmod 26 = (d : Int) := by
    have := IntKind.wrap_u64 z0
    have h0 := Int.tmod_nonneg (a := IntKind.u64.wrap z0) 26 (by omega)
    have h1 := Int.tmod_lt_of_pos (IntKind.u64.wrap z0) (b := 26) (by omega)
    have h2 := Int.toNat_of_nonneg h0
    exact ⟨((IntKind.u64.wrap z0).tmod 26).toNat, by omega, h2.symm⟩
  have eu0 : IntKind.u8.wrap (d : Int) = (d : Int) := IntWalk.u8_in _ (by omega)
  have eu : IntKind.u8.wrap (97 + (d : Int)) = 97 + (d : Int) := IntWalk.u8_in _ (by omega)
  have hcv := fun (W : World) (t : TypeId) => conv_new W [UInt8.ofNat (97 + d)] #[.int .u8 (97 + (d : Int))] 1 1 t rfl (fun j hj => by
    obtain rfl : j = 0 := by simpa using hj
    have : ((UInt8.ofNat (97 + d)).toNat : Int) = 97 + (d : Int) := by rw [UInt8.toNat_ofNat']; omega
    simpa using this.symm)
  have HN0 := Lib.hid (name_start ⟨d, hd⟩)
  obtain ⟨T, hT⟩ : ∃ T : ByteArray, T = ⟨[UInt8.ofNat (97 + d)].toArray⟩ := ⟨_, rfl⟩
  have hcv' : ∀ (W : World) (t : TypeId), (convert 27 9 (.slice (some ⟨W.heap.size, 0, none⟩) 1 1)).run Try.prog (W.alloc (.cells #[.int .u8 (97 + (d : Int))] t)) = .ok (.string T) (W.alloc (.cells #[.int .u8 (97 + (d : Int))] t)) := fun W t => by rw [hT]; exact hcv W t
  have HN1 : Hid (Name T 1) := by rw [hT]; exact HN0.out
  have HV := Lib.hid hcv'
  clear hcv hcv' HN0 hT
  go_enter Try.func6, Try.ntmps6
  go_wp2_with fail
  rw [HV.out w 5]
  have B1 : Hid (Below w.heap.size w (w.alloc (.cells #[.int .u8 (97 + (d : Int))] 5))) := (Below.refl _ _).alloc (Nat.le_refl _) _
  obtain ⟨w1, hw1⟩ : ∃ w1, w1 = w.alloc (.cells #[.int .u8 (97 + (d : Int))] 5) := ⟨_, rfl⟩
  rw [← hw1] at B1 ⊢
  clear hw1
  simp only [Result.andThen]
  rw [Oper.upon_value]
  go_wp2_with fail
  go_loopw [8, 9] (fun s i wr => ∃ (k : Nat) (S : ByteArray), k ≤ len ∧ i = .int .i64 k ∧ s = .string S ∧ Hid (Name S k) ∧ Hid (Below w.heap.size w wr)) (fun _ i _ => len - (intOf i).toNat)
  case atStart => exact ⟨1, T, g2, rfl, rfl, HN1, B1⟩
  case round =>
    obtain ⟨k, S, hk, rfl, rfl, HG, HB⟩ := hrel
    by_cases hlt : k < len
    · have hcell := (HB.out.cell (p := ⟨b, off + k, none⟩) hb).trans (HC.out k hlt)
      obtain ⟨z, hz⟩ : ∃ z, z = zs.getD k 0 := ⟨_, rfl⟩
      rw [← hz] at hcell
      clear hz
      obtain ⟨r, hr, er⟩ : ∃ r : Nat, r < 38 ∧ (IntKind.u64.wrap z).tmod 38 = (r : Int) := by
        have := IntKind.wrap_u64 z
        have h0 := Int.tmod_nonneg (a := IntKind.u64.wrap z) 38 (by omega)
        have h1 := Int.tmod_lt_of_pos (IntKind.u64.wrap z) (b := 38) (by omega)
        have h2 := Int.toNat_of_nonneg h0
        exact ⟨((IntKind.u64.wrap z).tmod 38).toNat, by omega, h2.symm⟩
      have e3 : ((r : Int) + 1).toNat = r + 1 := by omega
      have HL := Lib.hid (letters_at ⟨r, hr⟩)
      have hS := HG.out.1
      go_wp2_with fail
      go_roundw
      case rel => exact ⟨k + 1, _, hlt, by go_num, rfl, name_next HG.out HL.out.1 HL.out.2, HB⟩
      case measure => simp [intOf]; omega
    · obtain rfl : k = len := by omega
      have hS := HG.out.1
      have hS0 : 0 < k := g2
      have hS1 : k ≤ 20 := by omega
      obtain ⟨j, hj, ej⟩ : ∃ j : Nat, j < k ∧ (IntKind.u64.wrap i).tmod (k : Int) = (j : Int) := by
        have := IntKind.wrap_u64 i
        have h0 := Int.tmod_nonneg (a := IntKind.u64.wrap i) (k : Int) (by omega)
        have h1 := Int.tmod_lt_of_pos (IntKind.u64.wrap i) (b := (k : Int)) (by omega)
        have h2 := Int.toNat_of_nonneg h0
        exact ⟨((IntKind.u64.wrap i).tmod (k : Int)).toNat, by omega, h2.symm⟩
      have hse : ((k : Int) == 0) = false := beq_false_of_ne (by omega)
      have e2 : 0 ≤ 1 + (j : Int) := by omega
      have e3 : (1 + (j : Int)).toNat = j + 1 := by omega
      have e4 : 1 + (j : Int) ≤ (k : Int) := by omega
      have HX0 := fun (W : World) (t : TypeId) => conv_new W [u8 c] #[.int .u8 c] 1 1 t rfl (fun j hj => by
        obtain rfl : j = 0 := by simpa using hj
        simpa using (u8_toNat hc).symm)
      obtain ⟨X, hX⟩ : ∃ X : ByteArray, X = ⟨[u8 c].toArray⟩ := ⟨_, rfl⟩
      have HX : Hid (∀ (W : World) (t : TypeId), (convert 27 9 (.slice (some ⟨W.heap.size, 0, none⟩) 1 1)).run Try.prog (W.alloc (.cells #[.int .u8 c] t)) = .ok (.string X) (W.alloc (.cells #[.int .u8 c] t))) := fun W t => by rw [hX]; exact HX0 W t
      clear HX0
      have hXs : X.size = 1 := by rw [hX]; rfl
      have HXe := Lib.hid hX
      clear hX
      go_wp2_with fail
      have hcx : (convert 27 9 (.slice (some ⟨wr.heap.size, 0, none⟩) 1 1)).run Try.prog (wr.alloc (.cells #[.int .u8 c] 5)).drew = .ok (.string X) (wr.alloc (.cells #[.int .u8 c] 5)).drew := HX.out wr.drew 5
      go_region
      have hTT : S.extract 0 (j + 1) ++ X ++ S.extract (j + 1) k = putIn S (j + 1) (u8 c) := by rw [HXe.out, ← hS]; rfl
      have hU1 : (S.extract 0 (j + 1) ++ X ++ S.extract (j + 1) k).size ≤ 100 := by rw [hTT, putIn_size _ (by omega)]; omega
      have hU2 : (pl (S.extract 0 (j + 1) ++ X ++ S.extract (j + 1) k) || rs (S.extract 0 (j + 1) ++ X ++ S.extract (j + 1) k)) = inn c := by
        rw [hTT, putIn_pl _ HG.out.2.2.2 HG.out.2.2.1 (by omega) (by omega), u8_toNat hc]
      clear hTT HXe hXs HX hcx
      obtain ⟨U, hU⟩ : ∃ U, U = S.extract 0 (j + 1) ++ X ++ S.extract (j + 1) k := ⟨_, rfl⟩
      rw [← hU] at hU1 hU2 ⊢
      clear hU e2 e3 e4 ej hj
      have B2 : Hid (Below w.heap.size w (wr.alloc (.cells #[.int .u8 c] 5)).drew) := (HB.out.alloc HB.out.size _).trans ((drew_below _ 1).mono (HB.out.alloc HB.out.size _).size)
      obtain ⟨w2, hw2⟩ : ∃ w2, w2 = (wr.alloc (.cells #[.int .u8 c] 5)).drew := ⟨_, rfl⟩
      rw [← hw2] at B2 ⊢
      clear hw2
      have hmax : (100 : Nat) ≤ maxLen := by unfold maxLen; decide
      obtain ⟨r, hr⟩ : ∃ r, r = rs S := ⟨_, rfl⟩
      obtain ⟨p, hp⟩ : ∃ p, p = pl U := ⟨_, rfl⟩
      obtain ⟨q, hq⟩ : ∃ q, q = rs U := ⟨_, rfl⟩
      rw [← hp, ← hq] at hU2
      have H1 : Hid (∀ W, Calls Try.prog 10 #[.string S] W fun e w' => e = .returned (.bool (!r)) ∧ ∃ n, w' = W.drewN n) := fun W => t3_plain S _ (by omega) (by rw [hr]; exact pl_res HG.out.2.2.1 HG.out.2.2.2) W
      have H2 : Hid (∀ W, Calls Try.prog 8 #[.string S] W fun e w' => e = .returned (.bool r) ∧ W = w') := fun W => t3_res S r hr.symm W
      have H3 : Hid (∀ W, Calls Try.prog 10 #[.string U] W fun e w' => e = .returned (.bool p) ∧ ∃ n, w' = W.drewN n) := fun W => t3_plain U p hU1 hp.symm W
      have H4 : Hid (∀ W, Calls Try.prog 8 #[.string U] W fun e w' => e = .returned (.bool q) ∧ W = w') := fun W => t3_res U q hq.symm W
      have H5 : Hid (∀ W, Calls Try.prog 12 #[.int .u8 c] W fun e w' => e = .returned (.bool (p || q)) ∧ W = w') := fun W => by rw [hU2]; exact inner_any c W
      have H6 : Hid (∀ W, Calls Try.prog 10 #[.string (⟨#[65]⟩ ++ S)] W fun e w' => e = .returned (.bool false) ∧ ∃ n, w' = W.drewN n) := fun W => t3_plain _ false (by rw [ByteArray.size_append]; show 1 + S.size ≤ 100; omega) (pl_A S) W
      have H7 : Hid (∀ W, Calls Try.prog 14 #[.int .u8 (bt S 0)] W fun e w' => e = .returned (.int .i64 1) ∧ W = w') := fun W => by
        have := begins_any (bt S 0) W
        rw [HG.out.2.2.1] at this
        exact this
      have gb := get_bt S
      have hp0 : 0 < S.size := by omega
      clear hr hp hq hU2 hmax
      go_wp2_with fail
      refine (told3_any _).mono ?_
      rintro e w3 ⟨rfl, n1, rfl⟩
      go_wp2_with fail
      refine (H1.out _).mono ?_
      rintro e w3 ⟨rfl, n2, rfl⟩
      go_wp2_with fail
      refine (H2.out _).mono ?_
      rintro e w3 ⟨rfl, rfl⟩
      have er : ((!r) == (!r)) = true := beq_self_eq_true _
      go_wp2_with fail
      refine (H3.out _).mono ?_
      rintro e w3 ⟨rfl, n3, rfl⟩
      cases p
      all_goals
        go_wp2_with fail
        try (refine (H4.out _).mono ?_; rintro e w3 ⟨rfl, rfl⟩; go_wp2_with fail)
        refine (H5.out _).mono ?_
        rintro e w3 ⟨rfl, rfl⟩
        cases q
        all_goals
          go_wp2_with fail
          refine (H6.out _).mono ?_
          rintro e w3 ⟨rfl, n4, rfl⟩
          go_wp2_with fail
          refine (t3_plain ⟨#[]⟩ false (by decide) pl_empty _).mono ?_
          rintro e w3 ⟨rfl, n5, rfl⟩
          go_wp2_with fail
          refine (H7.out _).mono ?_
          rintro e w3 ⟨rfl, rfl⟩
          go_wp2_with fail
          go_ret
          exact ⟨rfl, B2.out.trans ((drew_below w2 _).mono B2.out.size)⟩
set_option maxRecDepth 100000 in
theorem lifted (os : Os) (started : os.Started) (H : Type) (enc : TypeId × Value → H) :
    ReturnsInHanded {} Try.checked os 6 .any (Rows.wordNamesSpec.pre6 enc Try.prog Try.f6 Rows.wordNamesRow.domain false) (Rows.wordNamesSpec.post enc Try.prog Try.f6 false true false false) := by
  refine returnsInHanded_of_change (C := Try.checked) ownKnobNone started (by kernel_rfl) Try.func6
    (ChangeSpec.witness6 (enc := enc) (C := Try.checked) false ⟨#[], #[.slice none 0 0, .int .i64 0, .int .u8 0], []⟩ 8 (by kernel_rfl) (by kernel_rfl) (by kernel_rfl) (by kernel_rfl)) ?_
  intro W base args ds gs before hval0 hW hcnd _
  have hval : ∀ (j : Nat) t v, Try.f6.params[j]? = some t → args[j]? = some v → Value.okWide Try.prog W .any base t v := hval0
  have hW' := hW
  obtain ⟨p, q, hA0, hV, rfl, hfz, hnd⟩ := hW
  have hA : DataW.TrodAll enc Try.prog W 0 (fun _ => true) true Try.f6.params.toList args.toList ds p := hA0
  rw [Try.params6] at hA hval
  obtain ⟨v0, vs0, d0, ds0, p0, q0, hargs, rfl, rfl, h0, r0⟩ := trodAll_cons hA
  obtain ⟨v1, vs1, d1, ds1, p1, q1, rfl, rfl, rfl, h1, r1⟩ := trodAll_cons r0
  obtain ⟨v2, vs2, d2, ds2, p2, q2, rfl, rfl, rfl, h2, r2⟩ := trodAll_cons r1
  obtain ⟨rfl, rfl, rfl⟩ := trodAll_nil r2
  obtain rfl : args = #[v0, v1, v2] := by cases args; simp_all
  obtain ⟨rfl, rfl⟩ := trodVars_none hV
  obtain ⟨a0, len0, cap0, rfl⟩ := okWide_slice Try.underlying32 (hval 0 32 v0 rfl rfl)
  have k0 := h0
  have lt0 : ∀ x ∈ p0, x.block < W.heap.size := by obtain ⟨m, hm⟩ := k0; exact DataW.trod_lt m _ _ _ hm
  obtain ⟨z0, w0⟩ : ∃ zs, IsRow W a0 len0 cap0 zs := by
    obtain ⟨fuel, hf⟩ := h0
    rcases open_ints Try.underlying32 Try.underlying3 (by kernel_rfl) hf with ⟨hcs, _⟩ | ⟨x, l, c, zs, hcs, _, hl, hm, hz, _, hcell, hwz⟩
    · simp [Value.cells] at hcs
      obtain ⟨rfl, rfl, rfl⟩ := hcs
      exact ⟨[], .inl ⟨rfl, rfl, rfl, rfl⟩⟩
    · simp [Value.cells] at hcs
      obtain ⟨rfl, rfl, rfl⟩ := hcs
      exact ⟨zs, .inr ⟨_, rfl, hl, hm, by simpa using hz, hcell, hwz⟩⟩
  obtain ⟨a1, rfl, rfl, rfl, w1⟩ := open_int Try.underlying3 (hval 1 3 v1 rfl rfl) h1
  obtain ⟨a2, rfl, rfl, rfl, w2⟩ := open_int Try.underlying5 (hval 2 5 v2 rfl rfl) h2
  clear hA0 hval0
  refine (walk a0 len0 cap0 z0 a1 a2 (byte_fits w2) W w0).mono fun e W' ⟨he, bel⟩ => ?_
  subst he
  exact ⟨_, rfl, _, _, _, [], _, [], hW', trodAll_mk1 (shut_bool Try.underlying4 _), (trodAll_cons_mk (Below.trod laidOutP (by kernel_rfl) (of_decide_eq_true (by kernel_rfl)) k0 bel lt0) (trodAll_cons_mk (shut_int Try.underlying3 w1) (trodAll_cons_mk (shut_int Try.underlying5 w2) trodAll_mk0))), rfl, bel.frame _, fun h => by cases h⟩
theorem over : Rows.WordNamesSaid :=
  OpenClaim.holds_of_wide 6 Try.f6 rfl rfl rfl rfl rfl rfl rfl ⟨rfl, rfl, rfl, rfl, rfl⟩ rfl rfl rfl rfl rfl (by kernel_rfl) Try.func6 (by kernel_rfl)
    (of_decide_eq_true (by kernel_rfl)) (by unfold Func.isWrapper; first | (rw [if_pos (by decide +kernel)]; kernel_rfl) | (rw [if_neg (by decide +kernel)]; exact ⟨rfl, rfl⟩))
    (fun os started H enc _ => lifted os started H enc)
/-- THE STATEMENT. -/
theorem proved : Rows.WordNamesSaid := over
#print axioms proved
end Go.Proofs.Ytjlimnmcaganfaa.wordNames
