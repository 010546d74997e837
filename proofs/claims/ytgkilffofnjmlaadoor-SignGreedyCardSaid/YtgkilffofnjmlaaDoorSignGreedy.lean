/-
  A sign stands as long as it can; with a blank behind it, it stands as long as it is (promise 5.1): for every two integers the statement SignGreedy returns true, where sign's table lies as the text lays it.
-/
import Derived.Test.YtgkilffofnjmlaaDoorSignLaid
import Derived.Test.YtgkilffofnjmlaaDoorRefSignLong
import Derived.BigRegion
import Derived.Deep.CutRange
import Derived.Test.YtgkilffofnjmlaaDoorCards
import Derived.Test.YtgkilffofnjmlaaDoorTie
namespace Go.Proofs.YtgkilffofnjmlaaDoor.signGreedy
open Go.ChangeShapes Go.WideShapes Go.ChangeAt Go.RowKit Go.PlainAid

def sw (k : Nat) : ByteArray := ⟨(sg k).toArray⟩
theorem sw_list (k : Nat) : (sw k).data.toList = sg k := rfl
theorem lg0 (s : ByteArray) (h : 0 < s.size) : lg s 0 = lgL s.data.toList := by
  rw [show (0 : Int) = ((0 : Nat) : Int) from rfl, lg_at s 0 h]; rfl
/-- What the statement asks of two signs. -/
theorem two : ∀ i : Fin 37, ∀ j : Fin 37, (sg i.val).length ≤ lgL (sg i.val ++ sg j.val) ∧ lgL (sg i.val ++ [32] ++ sg j.val) = (sg i.val).length ∧ sgs.contains ((sg i.val ++ sg j.val).take (lgL (sg i.val ++ sg j.val))) = true ∧ lgL (sg i.val ++ sg j.val) ≤ (sg i.val ++ sg j.val).length := by decide +kernel
theorem below_sgs {w W W' : World} (h : SgsAt w W) (hz : w.heap.size < W.heap.size) (hb : Below W.heap.size W W') : SgsAt w W' := ⟨fun k hk => (hb.cell (p := ⟨w.heap.size, k, none⟩) hz).trans (h.1 k hk), h.2.trans (hb.mono h.2.size)⟩
theorem sgs_size {w W : World} (h : SgsAt w W) : w.heap.size < W.heap.size := by
  have := h.1 0 (by omega)
  unfold World.cell? at this
  split at this
  · rename_i hh; exact (Array.getElem?_eq_some_iff.1 hh).1
  · cases this
theorem _root_.Go.Proofs.YtgkilffofnjmlaaDoor.SgsAt.below {w W W' : World} (h : SgsAt w W) (hb : Below W.heap.size W W') : SgsAt w W' := below_sgs h (sgs_size h) hb
theorem take_has (k : Nat) (hk : k < 37) (D : List UInt8) : (sgs.take (k + 1)).contains D = ((sgs.take k).contains D || (D == sg k)) := by
  have hk' : k < sgs.length := hk
  rw [List.take_succ_eq_append_getElem hk', List.contains_eq_mem, List.contains_eq_mem, Bool.eq_iff_iff]
  have e : sgs[k] = sg k := by unfold sg; rw [List.getD_eq_getElem?_getD, List.getElem?_eq_getElem hk']; rfl
  rw [e]
  simp
set_option maxRecDepth 100000 in
set_option maxHeartbeats 1000000 in
theorem walk (x y : Int) (w : World) (ht : TabM w) :
    Calls Tryd.prog 4 #[.int .i64 x, .int .i64 y] w fun e w' => e = .returned (.bool true) ∧ Below w.heap.size w w' := by
  have HT := Lib.hid ht
  clear ht
  obtain ⟨r, hr, er⟩ : ∃ r : Nat, r < 37 ∧ (IntKind.u64.wrap x).tmod 37 = (r : Int) := by
    have := IntKind.wrap_u64 x
    have h0 := Int.tmod_nonneg (a := IntKind.u64.wrap x) 37 (by omega)
    have h1 := Int.tmod_lt_of_pos (IntKind.u64.wrap x) (b := 37) (by omega)
    have h2 := Int.toNat_of_nonneg h0
    exact ⟨((IntKind.u64.wrap x).tmod 37).toNat, by omega, h2.symm⟩
  obtain ⟨q, hq, eq⟩ : ∃ q : Nat, q < 37 ∧ (IntKind.u64.wrap y).tmod 37 = (q : Int) := by
    have := IntKind.wrap_u64 y
    have h0 := Int.tmod_nonneg (a := IntKind.u64.wrap y) 37 (by omega)
    have h1 := Int.tmod_lt_of_pos (IntKind.u64.wrap y) (b := 37) (by omega)
    have h2 := Int.toNat_of_nonneg h0
    exact ⟨((IntKind.u64.wrap y).tmod 37).toNat, by omega, h2.symm⟩
  obtain ⟨t1, t2, t3, t4⟩ := two ⟨r, hr⟩ ⟨q, hq⟩
  simp only at t1 t2 t3 t4
  obtain ⟨f1, f2, _⟩ := sg_facts ⟨r, hr⟩
  obtain ⟨f3, f4, _⟩ := sg_facts ⟨q, hq⟩
  simp only at f1 f2 f3 f4
  obtain ⟨n, en⟩ : ∃ n, n = lgL (sg r ++ sg q) := ⟨_, rfl⟩
  have n3 : n ≤ 3 := by rw [en]; exact lgf_le _ 37 (by omega)
  obtain ⟨X, hX⟩ : ∃ X : ByteArray, X = sw r := ⟨_, rfl⟩
  obtain ⟨Y, hY⟩ : ∃ Y : ByteArray, Y = sw q := ⟨_, rfl⟩
  have zX : X.size = (sg r).length := by rw [hX]; rfl
  have zY : Y.size = (sg q).length := by rw [hY]; rfl
  have dXY : (X ++ Y).data.toList = sg r ++ sg q := by rw [hX, hY, ByteArray.data_append, Array.toList_append]; rfl
  have dXBY : ((X ++ ⟨#[32]⟩) ++ Y).data.toList = sg r ++ [32] ++ sg q := by rw [hX, hY, ByteArray.data_append, Array.toList_append, ByteArray.data_append, Array.toList_append]; rfl
  have C1 := Lib.hid (fun W (h : TabM W) => longest_is (X ++ Y) 0 n (by rw [lg0 _ (by rw [ByteArray.size_append]; omega), dXY, ← en]) W h)
  have C2 := Lib.hid (fun W (h : TabM W) => longest_is ((X ++ ⟨#[32]⟩) ++ Y) 0 X.size (by rw [lg0 _ (by rw [ByteArray.size_append]; omega), dXBY, t2, zX]) W h)
  have C3 := Lib.hid (fun W (h : TabM W) => longest_is X X.size 0 (lg_out X X.size (.inr (Int.le_refl _))) W h)
  have C4 := Lib.hid (fun W (h : TabM W) => longest_is X (-1) 0 (lg_out X (-1) (.inl (by omega))) W h)
  have m1 : X.size ≤ n := by rw [zX, en]; exact t1
  have mn : n ≤ (X ++ Y).size := by
    rw [ByteArray.size_append, zX, zY, en, ← List.length_append]
    exact t4
  have dE : ((X ++ Y).extract 0 n).data.toList = (sg r ++ sg q).take n := by
    rw [ByteArray.data_extract, Array.toList_extract, List.extract_eq_take_drop, dXY, List.drop_zero, Nat.sub_zero]
  rw [← en, ← dE] at t3
  have HX := Lib.hid hX
  have HY := Lib.hid hY
  have T3 := Lib.hid t3
  have x3 : X.size ≤ 3 := by omega
  have y3 : Y.size ≤ 3 := by omega
  have zXY : (X ++ Y).size = X.size + Y.size := ByteArray.size_append
  obtain ⟨D, hD⟩ : ∃ D : List UInt8, D = ((X ++ Y).extract 0 n).data.toList := ⟨_, rfl⟩
  have HD := Lib.hid hD
  rw [← hD] at T3
  rw [zXY] at mn
  clear hX hY t1 t2 t3 t4 en dXY dXBY dE zX zY f1 f2 f3 f4 hD zXY
  have hpos := Lib.hid HT.out.pos
  have g1 : ¬ (n : Int) < (X.size : Int) := by omega
  have g2 : ¬ (3 : Int) < (n : Int) := by omega
  have g3 : ((X.size : Int) != (X.size : Int)) = false := by simp
  have g4 : (n : Int) ≤ (X.size : Int) + (Y.size : Int) := by omega
  go_enter Tryd.func4, Tryd.ntmps4
  go_upto_region 1 with fail
  go_cut [5] from 11 to 11 (fun v wx => v = .slice (some ⟨w.heap.size, 0, none⟩) 37 37 ∧ Hid (SgsAt w wx))
  case first =>
    go_wp2_with fail
    go_meet
    exact ⟨rfl, Lib.hid (sgs_at _ _ _ rfl)⟩
  case rest =>
    obtain ⟨rfl, HW⟩ := hcut
    have cX : wc.cell? ⟨w.heap.size, r, none⟩ = some (.string X) := by rw [HX.out]; exact HW.out.1 r hr
    have cY : wc.cell? ⟨w.heap.size, q, none⟩ = some (.string Y) := by rw [HY.out]; exact HW.out.1 q hq
    go_wp2_with fail
    go_quiet (fail)
    go_wp2_with fail
    refine (C1.out _ ?_).mono ?_
    · exact HT.out.below (HW.out.drewN _).2 hpos.out
    rintro e w1 ⟨rfl, hb1⟩
    have S1 : Hid (SgsAt w w1) := Lib.hid ((HW.out.drewN _).below hb1)
    clear hb1 cX cY
    go_wp2_with fail
    refine (C2.out _ ?_).mono ?_
    · exact HT.out.below S1.out.2 hpos.out
    rintro e w2 ⟨rfl, hb2⟩
    have S2 : Hid (SgsAt w w2) := Lib.hid (S1.out.below hb2)
    clear hb2 S1
    go_wp2_with fail
    go_loopg [9, 10] 37 (fun gn f i wr => ∃ (k : Nat) (b : Bool), gn = 37 - k ∧ k ≤ 37 ∧ f = .bool b ∧ i = .int .i64 k ∧ Hid (SgsAt w wr) ∧ Hid (b = (sgs.take k).contains D))
    case atStart => exact ⟨0, false, rfl, by omega, rfl, rfl, S2, Lib.hid rfl⟩
    case round =>
      obtain ⟨k, b, hgn, hk, rfl, rfl, HR, HB⟩ := hrel
      by_cases hlt : k < 37
      · have cK := HR.out.1 k hlt
        have HV : Hid (∀ v : Bool, ((⟨(sg k).toArray⟩ : ByteArray).toList == ((X ++ Y).extract 0 n).toList) = v → (sgs.take (k + 1)).contains D = (b || v)) := Lib.hid (fun v hv => by
          rw [take_has k hlt, ← HB.out, ← hv, ByteArray.toList_eq, ByteArray.toList_eq, ← HD.out]
          congr 1
          exact BEq.comm)
        obtain ⟨Z, hZ⟩ : ∃ Z : ByteArray, Z = ⟨(sg k).toArray⟩ := ⟨_, rfl⟩
        rw [← hZ] at cK HV
        clear hZ
        cases hv : (Z.toList == ((X ++ Y).extract 0 n).toList)
        · have HF := Lib.hid (HV.out _ hv)
          cases b
          · go_wp2_with fail
            go_quiet (fail)
            go_wp2_with fail
            go_roundg (37 - (k + 1))
            case measure => omega
            case rel => exact ⟨k + 1, false, rfl, hlt, rfl, by go_num, Lib.hid (HR.out.drewN _), Lib.hid HF.out.symm⟩
          · go_wp2_with fail
            go_quiet (fail)
            go_wp2_with fail
            go_roundg (37 - (k + 1))
            case measure => omega
            case rel => exact ⟨k + 1, true, rfl, hlt, rfl, by go_num, Lib.hid (HR.out.drewN _), Lib.hid HF.out.symm⟩
        · have HF := Lib.hid (HV.out _ hv)
          rw [Bool.or_true] at HF
          cases b
          · go_wp2_with fail
            go_quiet (fail)
            go_wp2_with fail
            go_roundg (37 - (k + 1))
            case measure => omega
            case rel => exact ⟨k + 1, true, rfl, hlt, rfl, by go_num, Lib.hid (HR.out.drewN _), Lib.hid HF.out.symm⟩
          · go_wp2_with fail
            go_quiet (fail)
            go_wp2_with fail
            go_roundg (37 - (k + 1))
            case measure => omega
            case rel => exact ⟨k + 1, true, rfl, hlt, rfl, by go_num, Lib.hid (HR.out.drewN _), Lib.hid HF.out.symm⟩
      · obtain rfl : k = 37 := by omega
        obtain rfl : b = true := by
          rw [HB.out, List.take_of_length_le (by decide)]
          exact T3.out
        go_wp2_with fail
        refine (told5_any _ (HT.out.below HR.out.2 hpos.out)).mono ?_
        rintro e w3 ⟨rfl, hb3⟩
        have S3 : Hid (SgsAt w w3) := Lib.hid (HR.out.below hb3)
        clear hb3
        go_wp2_with fail
        refine (C3.out _ (HT.out.below S3.out.2 hpos.out)).mono ?_
        rintro e w4 ⟨rfl, hb4⟩
        have S4 : Hid (SgsAt w w4) := Lib.hid (S3.out.below hb4)
        clear hb4
        go_wp2_with fail
        refine (C4.out _ (HT.out.below S4.out.2 hpos.out)).mono ?_
        rintro e w5 ⟨rfl, hb5⟩
        have S5 : Hid (SgsAt w w5) := Lib.hid (S4.out.below hb5)
        clear hb5
        go_wp2_with fail
        go_ret
        exact ⟨rfl, S5.out.2⟩
set_option maxRecDepth 100000 in
theorem lifted (os : Os) (started : os.Started) (H : Type) (enc : TypeId × Value → H) :
    ReturnsInHanded {} Tryd.checked os 4 .any (fun w args => (Rows.signGreedySpec.pre enc Tryd.prog Tryd.f4 [] false w args ∧ laidMetH Tryd.prog signLaid w) ∧ sizedMet enc Tryd.prog Tryd.f4 (OpenSpec.ofChange Rows.signGreedySpec) false w args)
      (Rows.signGreedySpec.post enc Tryd.prog Tryd.f4 false true false false) := by
  refine returnsInHanded_of_change_and (C := Tryd.checked) (X := fun w _ => laidMetH Tryd.prog signLaid w) (fun _ _ _ hh h => h.of_heap hh) own5 started (by kernel_rfl) Tryd.func4
    (ChangeSpec.witness_shaped (enc := enc) (C := Tryd.checked) (os := os) (X := fun w _ => laidMetH Tryd.prog signLaid w) false (World.doorLaid Tryd.prog 400 os) #[.int .i64 0, .int .i64 0] 8 rfl (World.shaped_of_RefB (by kernel_rfl) (by kernel_rfl)) (by kernel_rfl) (by kernel_rfl) (by kernel_rfl) (door_met5 os _)) ?_
  intro W base args ds gs before hval0 hW _ _ hL _
  have hval : ∀ (j : Nat) t v, Tryd.f4.params[j]? = some t → args[j]? = some v → Value.okWide Tryd.prog W .any base t v := hval0
  have hW' := hW
  obtain ⟨p, q, hA0, hV, rfl, hfz, hnd⟩ := hW
  have hA : DataW.TrodAll enc Tryd.prog W 0 (fun _ => true) true Tryd.f4.params.toList args.toList ds p := hA0
  rw [Tryd.params4] at hA hval
  obtain ⟨v0, vs0, d0, ds0, p0, q0, hargs, rfl, rfl, h0, r0⟩ := trodAll_cons hA
  obtain ⟨v1, vs1, d1, ds1, p1, q1, rfl, rfl, rfl, h1, r1⟩ := trodAll_cons r0
  obtain ⟨rfl, rfl, rfl⟩ := trodAll_nil r1
  obtain rfl : args = #[v0, v1] := by cases args; simp_all
  obtain ⟨rfl, rfl⟩ := trodVars_none hV
  obtain ⟨a0, rfl, rfl, rfl, w0⟩ := open_int Tryd.underlying3 (hval 0 3 v0 rfl rfl) h0
  obtain ⟨a1, rfl, rfl, rfl, w1⟩ := open_int Tryd.underlying3 (hval 1 3 v1 rfl rfl) h1
  clear hA0 hval0
  simp only [List.append_nil] at hW'
  refine (walk a0 a1 W (mtab_of_laid hL)).mono fun e W' ⟨he, bel⟩ => ?_
  subst he
  exact ⟨_, rfl, _, _, _, [], _, [], hW', trodAll_mk1 (shut_bool Tryd.underlying4 _), (trodAll_cons_mk (shut_int Tryd.underlying3 w0) (trodAll_cons_mk (shut_int Tryd.underlying3 w1) trodAll_mk0)), rfl, bel.frame _, fun h => by cases h⟩
theorem over : Rows.SignGreedySaid :=
  OpenClaim.holds_of_wide 4 Tryd.f4 rfl rfl rfl rfl rfl rfl rfl ⟨rfl, rfl, rfl, rfl, rfl⟩ rfl rfl rfl rfl rfl (by kernel_rfl) Tryd.func4 (by kernel_rfl)
    (of_decide_eq_true (by kernel_rfl)) (by unfold Func.isWrapper; first | (rw [if_pos (by decide +kernel)]; kernel_rfl) | (rw [if_neg (by decide +kernel)]; exact ⟨rfl, rfl⟩))
    (fun os started H enc _ => lifted os started H enc)
/-- THE TIED CARD. -/
theorem proved : Rows.SignGreedyCardSaid :=
  Claim7.holds_tied_plain_at .later [] [.data] true Rows.signGreedyCard.stood.harness false
    over (fun _ h => by cases h) (by kernel_rfl) (fun _ h => by cases h) signGreedy_row_tie rfl ⟨rfl, rfl⟩ (by kernel_rfl) rfl
    (fun f fn hf hfn => by
      obtain rfl : f = 4 := Option.some.inj ((show Tryd.prog.funcNamed "galley/galleylaw5.SignGreedy" = some 4 by kernel_rfl).symm.trans hf) |>.symm
      obtain rfl : fn = Tryd.f4 := (Option.some.inj (Tryd.func4.symm.trans hfn)).symm
      exact ⟨by kernel_rfl, fun j t ht => by
        rw [Tryd.params4] at ht
        have hm : t ∈ [3] := by
          have := Array.mem_of_getElem? ht
          simpa using this
        have hall : ([3].all fun u => !Tryd.prog.wantsStandIn u) = true := by kernel_rfl
        exact (show Tryd.prog.wantsStandIn t = false by simpa using List.all_eq_true.1 hall t hm)⟩)
    (by kernel_rfl)
#print axioms proved
end Go.Proofs.YtgkilffofnjmlaaDoor.signGreedy
