/-
  Levels, needs, what is bare, what hugs, is what the document says (promises 18.1, 18.2): for every node, every integer and every text the statement ParensAsks returns true. No condition.
-/
import Derived.Test.YtbjgoigdhijbgaaBase
import Derived.Test.YtbjgoigdhijbgaaNodeK
import Derived.Test.YtbjgoigdhijbgaaPrnTold
import Derived.Deep.CutRange
import Derived.BigRegion
import Derived.BigQuiet
set_option linter.all false
namespace Go.Proofs.Ytbjgoigdhijbgaa.parensAsks
open Go.ChangeShapes Go.WideShapes Go.ChangeAt Go.RowKit Go.PlainAid

set_option maxRecDepth 100000 in
set_option maxHeartbeats 8000000 in
theorem walk (c0 : List Value) (n0 : Nd) (l : Int) (op : ByteArray) (hop : op.size ≤ maxLen) (w : World) (g0 : NdAt w c0 n0) (s0 : Sza n0) (kr0 : ∀ k, c0[0]? = some (.int .i64 k) → -9223372036854775808 ≤ k ∧ k ≤ 9223372036854775807) (s2 : Sr op) :
    Calls Try.prog 3 #[.agg c0.toArray, .int .i64 l, .string op] w fun e w' => e = .returned (.bool true) ∧ Below w.heap.size w w' := by
  obtain ⟨k, t, v2, v3, v4, v5, v6, rfl⟩ : ∃ k t v2 v3 v4 v5 v6, c0 = [.int .i64 k, .string t, v2, v3, v4, v5, v6] := by
    cases n0 with
    | mk k t l br bl no ta => obtain ⟨lv, nv, tv, cs, rfl, -⟩ := g0.inv; exact ⟨_, _, _, _, _, _, _, rfl⟩
  have hk := kr0 k rfl
  clear g0 s0 kr0 s2
  obtain ⟨V, hV⟩ : ∃ V, V = w.alloc (.cells #[.int .i64 k, .string t, v2, v3, v4, v5, v6] 25) := ⟨_, rfl⟩
  have hbV : Below w.heap.size w V := by rw [hV]; exact below1 _ _
  have ha : V.heap[w.heap.size]? = some (.cells #[.int .i64 k, .string t, v2, v3, v4, v5, v6] 25) := by rw [hV]; exact alloc_at9 w _
  obtain ⟨nb, hnb⟩ : ∃ n, n = w.heap.size := ⟨_, rfl⟩
  rw [← hnb] at ha
  have CC : Hid (∀ W, Below V.heap.size V W → (W.cell? ⟨nb, 0, none⟩ = some (.int .i64 k) ∧ W.cell? ⟨nb, 1, none⟩ = some (.string t) ∧ W.cell? ⟨nb, 2, none⟩ = some (v2) ∧ W.cell? ⟨nb, 3, none⟩ = some (v3) ∧ W.cell? ⟨nb, 4, none⟩ = some (v4) ∧ W.cell? ⟨nb, 5, none⟩ = some (v5) ∧ W.cell? ⟨nb, 6, none⟩ = some (v6)) ∧ Hid (Below V.heap.size V W)) := Lib.hid (fun W (hb : Below V.heap.size V W) => ⟨nd7_of ((hb.block _ (lt_of_block ha)).trans ha), Lib.hid hb⟩)
  have HBV := Lib.hid hbV
  have HV := Lib.hid hV
  have HNB := Lib.hid hnb
  have hbtl := ba_len_toList t
  clear hbV ha
  have hte : t.size = 0 → (t.toList == []) = true := fun h => by
    cases hl : t.toList with
    | nil => rfl
    | cons => rw [hl] at hbtl; simp at hbtl; omega
  have htn : 0 < t.size → (t.toList == []) = false := fun h => by
    cases hl : t.toList with
    | nil => rw [hl] at hbtl; simp at hbtl; omega
    | cons => rfl
  obtain ⟨ts, hts⟩ : ∃ n : Nat, n = t.size := ⟨_, rfl⟩
  obtain ⟨os, hos⟩ : ∃ n : Nat, n = op.size := ⟨_, rfl⟩
  have hb0 : Below V.heap.size V V := Below.refl _ _
  obtain ⟨⟨n0, n1, n2, n3, n4, n5, n6⟩, HB0⟩ := CC.out V hb0
  clear hbtl hop
  by_cases hs1 : 100 < t.size
  · have hs1' : (100 : Int) < (t.size : Int) := by omega
    clear hs1 hte htn hk hts hos
    go_enter Try.func3, Try.ntmps3
    go_upto_region 1 with fail
    rw [← HV.out, ← HNB.out]
    clear hV hnb
    go_wp2_with fail
    refine (told18_any _).mono ?_
    rintro e w1 ⟨rfl, hb1⟩
    go_wp2_with fail
    go_ret
    exact ⟨rfl, HBV.out.trans (hb1.mono HBV.out.size)⟩
  have hs1' : ¬ (100 : Int) < (t.size : Int) := by omega
  have hs1'' : (t.size : Int) ≤ 100 := by omega
  by_cases hs2 : 20 < op.size
  · have hs2' : (20 : Int) < (op.size : Int) := by omega
    clear hs1 hs2 hte htn hk hts hos
    go_enter Try.func3, Try.ntmps3
    go_upto_region 1 with fail
    rw [← HV.out, ← HNB.out]
    clear hV hnb
    go_wp2_with fail
    refine (told18_any _).mono ?_
    rintro e w1 ⟨rfl, hb1⟩
    go_wp2_with fail
    go_ret
    exact ⟨rfl, HBV.out.trans (hb1.mono HBV.out.size)⟩
  have hs2' : ¬ (20 : Int) < (op.size : Int) := by omega
  have hs2'' : (op.size : Int) ≤ 20 := by omega
  by_cases hs3 : k = 1 ∧ t.size = 0
  · obtain ⟨hk1, ht0⟩ := hs3
    have hk1' : (k == 1) = true := by simp [hk1]
    have hte' := hte ht0
    clear hs1 hs2 hte htn hk hts hos hk1 ht0
    go_enter Try.func3, Try.ntmps3
    go_upto_region 1 with fail
    rw [← HV.out, ← HNB.out]
    clear hV hnb
    go_wp2_with fail
    refine (told18_any _).mono ?_
    rintro e w1 ⟨rfl, hb1⟩
    go_wp2_with fail
    go_ret
    exact ⟨rfl, HBV.out.trans (hb1.mono HBV.out.size)⟩
  have h1 : k = 1 → 0 < t.size := fun h => by omega
  have hkk : ((k == 1) = false) ∨ ((k == 1) = true ∧ (t.toList == []) = false) := by
    by_cases hk1 : k = 1
    · exact .inr ⟨by simp [hk1], htn (h1 hk1)⟩
    · exact .inl (by simpa using hk1)
  have HK := Lib.hid hk
  have H1 := Lib.hid h1
  clear hs1 hs2 hs3 hte htn hk hts hos h1
  have PL := Lib.hid (fun W => plevel_any k t v2 v3 v4 v5 v6 W)
  have RL := Lib.hid (fun W => rlevel_any k t v2 v3 v4 v5 v6 W)
  have PN := Lib.hid (fun W => pneed_any k t v2 v3 v4 v5 v6 l W)
  have RN := Lib.hid (fun W => rneed_any k t v2 v3 v4 v5 v6 l W)
  have PB := Lib.hid (fun W => pbare_any k t v2 v3 v4 v5 v6 W HK.out)
  have RB := Lib.hid (fun W => rbare_any k t v2 v3 v4 v5 v6 W H1.out)
  have PH := Lib.hid (fun W => phugs_any op k t v2 v3 v4 v5 v6 W HK.out)
  have RH := Lib.hid (fun W => rhugs_any op k t v2 v3 v4 v5 v6 W)
  obtain ⟨ll, hll⟩ : ∃ n, n = lvlI k t := ⟨_, rfl⟩
  rw [← hll] at PL RL PN RN
  obtain ⟨nd, hnd⟩ : ∃ b, b = decide ((ll : Int) < l) := ⟨_, rfl⟩
  rw [← hnd] at PN RN
  obtain ⟨bb, hbb⟩ : ∃ b, b = barI k t := ⟨_, rfl⟩
  rw [← hbb] at PB RB
  obtain ⟨hh, hhh⟩ : ∃ b, b = hugI op k := ⟨_, rfl⟩
  rw [← hhh] at PH RH
  clear hll hnd hbb hhh
  have K0 := Lib.hid (fun (W W' : World) (h : Below W.heap.size W W') (h2 : Below V.heap.size V W) => h2.trans (h.mono h2.size))
  have e1 : ((ll : Int) == (ll : Int)) = true := beq_self_eq_true _
  have e2 : (nd == nd) = true := beq_self_eq_true _
  have e3 : (bb == bb) = true := beq_self_eq_true _
  have e4 : (hh == hh) = true := beq_self_eq_true _
  go_enter Try.func3, Try.ntmps3
  go_upto_region 1 with fail
  rw [← HV.out, ← HNB.out]
  clear hV hnb
  go_cut [27] from 9 to 26 (fun v wx => v = .bool false ∧ wx = V)
  case first =>
    rcases hkk with h9 | ⟨h9, h8⟩
    all_goals
      go_wp2_with fail
      go_meet
      exact ⟨rfl, rfl⟩
  case rest =>
    obtain ⟨rfl, hwc⟩ := hcut
    rw [hwc]
    clear hwc
    clear hkk n0 n1 n2 n3 n4 n5 n6
    go_wp2_with fail
    go_loopg [7] 32 (fun gn c wi => ∃ (j : Nat), gn = 32 - j ∧ j ≤ 32 ∧ c = .int .i64 (j : Int) ∧ Hid (Below V.heap.size V wi))
    case atStart => exact ⟨0, rfl, by decide, rfl, HB0⟩
    case round =>
      obtain ⟨j, hgn, hj, rfl, HBj⟩ := hrel
      clear HB0
      obtain ⟨⟨n0, n1, n2, n3, n4, n5, n6⟩, -⟩ := CC.out _ HBj.out
      by_cases hlt : j < 32
      · have jn : (j : Int) ≤ 31 := by omega
        obtain ⟨X, hX⟩ : ∃ X, X = wr.alloc (.cells #[.int .i64 (j : Int), .string t, .slice none 0 0, .bool false, .bool false, .slice none 0 0, .slice none 0 0] 25) := ⟨_, rfl⟩
        have bX : Below wr.heap.size wr X := by rw [hX]; exact below1 _ _
        have hx : X.heap[wr.heap.size]? = some (.cells #[.int .i64 (j : Int), .string t, .slice none 0 0, .bool false, .bool false, .slice none 0 0, .slice none 0 0] 25) := by rw [hX]; exact alloc_at9 wr _
        obtain ⟨xb, hxb⟩ : ∃ n, n = wr.heap.size := ⟨_, rfl⟩
        rw [← hxb] at hx
        have HBX := Lib.hid (HBj.out.trans (bX.mono HBj.out.size))
        have CX : Hid (∀ W, Below X.heap.size X W → (W.cell? ⟨xb, 0, none⟩ = some (.int .i64 (j : Int)) ∧ W.cell? ⟨xb, 1, none⟩ = some (.string t) ∧ W.cell? ⟨xb, 2, none⟩ = some (.slice none 0 0) ∧ W.cell? ⟨xb, 3, none⟩ = some (.bool false) ∧ W.cell? ⟨xb, 4, none⟩ = some (.bool false) ∧ W.cell? ⟨xb, 5, none⟩ = some (.slice none 0 0) ∧ W.cell? ⟨xb, 6, none⟩ = some (.slice none 0 0)) ∧ Hid (Below X.heap.size X W)) := Lib.hid (fun W (hb : Below X.heap.size X W) => ⟨nd7_of ((hb.block _ (lt_of_block hx)).trans hx), Lib.hid hb⟩)
        have HXE := Lib.hid hX
        have HXB := Lib.hid hxb
        clear bX hx hX hxb
        go_upto_region 7 with fail
        rw [← HXE.out, ← HXB.out]
        clear n0 n1 n2 n3 n4 n5 n6 HXE HXB
        have hd := CX.out X (Below.refl _ _)
        by_cases hj1 : j = 1
        · have hj1' : ((j : Int) != 1) = false := by simp [hj1]
          clear hj1
          go_wp2_with fail
          go_quiet (fail)
          go_wp2_with fail
          go_roundg (32 - (j + 1))
          case measure => omega
          case rel => exact ⟨j + 1, rfl, hlt, by go_num, Lib.hid (HBX.out.trans ((drew_below X nq).mono HBX.out.size))⟩
        · have hj1' : ((j : Int) != 1) = true := by simp; omega
          have hjn : (j : Int) ≠ 1 := by omega
          have jr : -9223372036854775808 ≤ (j : Int) ∧ (j : Int) ≤ 9223372036854775807 := by omega
          have QH := Lib.hid (fun W => phugs_any op (j : Int) t (.slice none 0 0) (.bool false) (.bool false) (.slice none 0 0) (.slice none 0 0) W jr)
          have QH2 := Lib.hid (fun W => rhugs_any op (j : Int) t (.slice none 0 0) (.bool false) (.bool false) (.slice none 0 0) (.slice none 0 0) W)
          have QB := Lib.hid (fun W => pbare_any (j : Int) t (.slice none 0 0) (.bool false) (.bool false) (.slice none 0 0) (.slice none 0 0) W jr)
          have QB2 := Lib.hid (fun W => rbare_any (j : Int) t (.slice none 0 0) (.bool false) (.bool false) (.slice none 0 0) (.slice none 0 0) W (fun h => absurd h hjn))
          have QL := Lib.hid (fun W => plevel_any (j : Int) t (.slice none 0 0) (.bool false) (.bool false) (.slice none 0 0) (.slice none 0 0) W)
          have QL2 := Lib.hid (fun W => rlevel_any (j : Int) t (.slice none 0 0) (.bool false) (.bool false) (.slice none 0 0) (.slice none 0 0) W)
          obtain ⟨qh, hqh⟩ : ∃ b, b = hugI op (j : Int) := ⟨_, rfl⟩
          rw [← hqh] at QH QH2
          obtain ⟨qb, hqb⟩ : ∃ b, b = barI (j : Int) t := ⟨_, rfl⟩
          rw [← hqb] at QB QB2
          obtain ⟨ql, hql⟩ : ∃ b, b = lvlI (j : Int) t := ⟨_, rfl⟩
          rw [← hql] at QL QL2
          have u1 : (qh != qh) = false := bne_self_eq_false _
          have u2 : (qb != qb) = false := bne_self_eq_false _
          have u3 : ((ql : Int) != (ql : Int)) = false := bne_self_eq_false _
          have KX := Lib.hid (fun (W W' : World) (h : Below W.heap.size W W') (h2 : Below X.heap.size X W) => h2.trans (h.mono h2.size))
          have hz := Below.drew (Below.refl X.heap.size X)
          have hd2 := (CX.out _ hz).1
          clear hj1 hqh hqb hql hjn jr hd
          go_wp2_with fail
          go_region_held3 (fun W => W.cell? ⟨xb, 0, none⟩ = some (.int .i64 (j : Int)) ∧ W.cell? ⟨xb, 1, none⟩ = some (.string t) ∧ W.cell? ⟨xb, 2, none⟩ = some (.slice none 0 0) ∧ W.cell? ⟨xb, 3, none⟩ = some (.bool false) ∧ W.cell? ⟨xb, 4, none⟩ = some (.bool false) ∧ W.cell? ⟨xb, 5, none⟩ = some (.slice none 0 0) ∧ W.cell? ⟨xb, 6, none⟩ = some (.slice none 0 0)) (first | exact hd2 | exact (CX.out _ ht).1) (first
            | (go_at_call 7; refine (QH.out _).mono ?_; rintro e w4 ⟨rfl, hb⟩; have ht := KX.out _ _ hb hz; clear hb)
            | (go_at_call 8; refine (QH2.out _).mono ?_; rintro e w4 ⟨rfl, hb⟩; have ht := KX.out _ _ hb ht; clear hb)
            | (go_at_call 9; refine (QB.out _).mono ?_; rintro e w4 ⟨rfl, hb⟩; have ht := KX.out _ _ hb ht; clear hb)
            | (go_at_call 10; refine (QB2.out _).mono ?_; rintro e w4 ⟨rfl, hb⟩; have ht := KX.out _ _ hb ht; clear hb)
            | (go_at_call 11; refine (QL.out _).mono ?_; rintro e w4 ⟨rfl, hb⟩; have ht := KX.out _ _ hb ht; clear hb)
            | (go_at_call 12; refine (QL2.out _).mono ?_; rintro e w4 ⟨rfl, hb⟩; have ht := KX.out _ _ hb ht; clear hb))
          have HBY := Lib.hid (HBX.out.trans (ht.mono HBX.out.size))
          clear ht hz hd2
          go_wp2_with fail
          go_roundg (32 - (j + 1))
          case measure => omega
          case rel => exact ⟨j + 1, rfl, hlt, by go_num, HBY⟩
      · obtain rfl : j = 32 := by omega
        have hz := Below.drew HBj.out
        have hd2 := (CC.out _ hz).1
        clear n0 n1 n2 n3 n4 n5 n6
        go_wp2_with fail
        go_region_held3 (fun W => W.cell? ⟨nb, 0, none⟩ = some (.int .i64 k) ∧ W.cell? ⟨nb, 1, none⟩ = some (.string t) ∧ W.cell? ⟨nb, 2, none⟩ = some (v2) ∧ W.cell? ⟨nb, 3, none⟩ = some (v3) ∧ W.cell? ⟨nb, 4, none⟩ = some (v4) ∧ W.cell? ⟨nb, 5, none⟩ = some (v5) ∧ W.cell? ⟨nb, 6, none⟩ = some (v6)) (first | exact hd2 | exact (CC.out _ ht).1) (first
          | (go_at_call 6; refine (told18_any _).mono ?_; rintro e w4 ⟨rfl, hb⟩; have ht := K0.out _ _ hb hz; clear hb)
          | (go_at_call 11; refine (PL.out _).mono ?_; rintro e w4 ⟨rfl, hb⟩; have ht := K0.out _ _ hb ht; clear hb)
          | (go_at_call 12; refine (RL.out _).mono ?_; rintro e w4 ⟨rfl, hb⟩; have ht := K0.out _ _ hb ht; clear hb)
          | (go_at_call 13; refine (PN.out _).mono ?_; rintro e w4 ⟨rfl, hb⟩; have ht := K0.out _ _ hb ht; clear hb)
          | (go_at_call 14; refine (RN.out _).mono ?_; rintro e w4 ⟨rfl, hb⟩; have ht := K0.out _ _ hb ht; clear hb)
          | (go_at_call 9; refine (PB.out _).mono ?_; rintro e w4 ⟨rfl, hb⟩; have ht := K0.out _ _ hb ht; clear hb)
          | (go_at_call 10; refine (RB.out _).mono ?_; rintro e w4 ⟨rfl, hb⟩; have ht := K0.out _ _ hb ht; clear hb)
          | (go_at_call 7; refine (PH.out _).mono ?_; rintro e w4 ⟨rfl, hb⟩; have ht := K0.out _ _ hb ht; clear hb)
          | (go_at_call 8; refine (RH.out _).mono ?_; rintro e w4 ⟨rfl, hb⟩; have ht := K0.out _ _ hb ht; clear hb))
        have HBY := Lib.hid (HBV.out.trans (ht.mono HBV.out.size))
        clear ht hz hd2
        go_wp2_with fail
        go_ret
        exact ⟨rfl, HBY.out⟩
set_option maxRecDepth 100000 in
theorem lifted (os : Os) (started : os.Started) (H : Type) (enc : TypeId × Value → H) :
    ReturnsInHanded {} Try.checked os 3 .any (Rows.parensAsksSpec.pre6 enc Try.prog Try.f3 Rows.parensAsksRow.domain false) (Rows.parensAsksSpec.post enc Try.prog Try.f3 false true false false) := by
  refine returnsInHanded_of_change_sized (C := Try.checked) ownKnobNone started (by kernel_rfl) Try.func3
    (ChangeSpec.witness6 (enc := enc) (C := Try.checked) false ⟨#[], #[.agg #[.int .i64 0, .string ByteArray.empty, .slice none 0 0, .bool false, .bool false, .slice none 0 0, .slice none 0 0], .int .i64 0, .string ByteArray.empty], []⟩ 8 (by kernel_rfl) (by kernel_rfl) (by kernel_rfl) (by kernel_rfl)) ?_
  intro W base args ds gs before hval0 hW _ hz0 _
  have hval : ∀ (j : Nat) t v, Try.f3.params[j]? = some t → args[j]? = some v → Value.okWide Try.prog W .any base t v := hval0
  have hW' := hW
  obtain ⟨p, q, hA0, hV, rfl, hfz, hnd⟩ := hW
  have hA : DataW.TrodAll enc Try.prog W 0 (fun _ => true) true Try.f3.params.toList args.toList ds p := hA0
  rw [Try.params3] at hA hval
  obtain ⟨v0, vs0, d0, ds0, p0, q0, hargs, rfl, rfl, h0, r0⟩ := trodAll_cons hA
  obtain ⟨v1, vs1, d1, ds1, p1, q1, rfl, rfl, rfl, h1, r1⟩ := trodAll_cons r0
  obtain ⟨v2, vs2, d2, ds2, p2, q2, rfl, rfl, rfl, h2, r2⟩ := trodAll_cons r1
  obtain ⟨rfl, rfl, rfl⟩ := trodAll_nil r2
  obtain rfl : args = #[v0, v1, v2] := by cases args; simp_all
  obtain ⟨rfl, rfl⟩ := trodVars_none hV
  have hz0' : ∀ m ∈ d0.weights Try.prog 25, m ≤ reachBytes := fun m hm => by simpa using List.all_eq_true.1 hz0 m (DataW.weights_mem_each (j := 0) (by rw [Try.params3]; rfl) rfl m hm)
  have hz1' : ∀ m ∈ d1.weights Try.prog 3, m ≤ reachBytes := fun m hm => by simpa using List.all_eq_true.1 hz0 m (DataW.weights_mem_each (j := 1) (by rw [Try.params3]; rfl) rfl m hm)
  have hz2' : ∀ m ∈ d2.weights Try.prog 9, m ≤ reachBytes := fun m hm => by simpa using List.all_eq_true.1 hz0 m (DataW.weights_mem_each (j := 2) (by rw [Try.params3]; rfl) rfl m hm)
  have k0 := h0
  have lt0 : ∀ x ∈ p0, x.block < W.heap.size := by obtain ⟨m, hm⟩ := k0; exact DataW.trod_lt m _ _ _ hm
  obtain ⟨c0, n0, rfl, g0, s0⟩ := open_node (hval 0 25 v0 rfl rfl) h0 hz0'
  have kr0 := nd_kind h0
  obtain ⟨a1, rfl, rfl, rfl, w1⟩ := open_int Try.underlying3 (hval 1 3 v1 rfl rfl) h1
  obtain ⟨a2, rfl, rfl, rfl, w2⟩ := Go.ChangeMaps.open_string Try.underlying9 (hval 2 9 v2 rfl rfl) h2
  have s2 : Sr a2 := sz_reach (hz2' _ (by simp [DataW.weights]))
  clear hA0 hval0
  refine (walk c0 n0 a1 a2 w2 W g0 s0 kr0 s2).mono fun e W' ⟨he, bel⟩ => ?_
  subst he
  exact ⟨_, rfl, _, _, _, [], _, [], hW', trodAll_mk1 (shut_bool Try.underlying4 _), (trodAll_cons_mk (Below.trod laidOutP (by kernel_rfl) (of_decide_eq_true (by kernel_rfl)) k0 bel lt0) (trodAll_cons_mk (shut_int Try.underlying3 w1) (trodAll_cons_mk (Go.ChangeMaps.shut_string Try.underlying9 w2) trodAll_mk0))), rfl, bel.frame _, fun h => by cases h⟩
theorem over : Rows.ParensAsksSaid :=
  OpenClaim.holds_of_wide 3 Try.f3 rfl rfl rfl rfl rfl rfl rfl ⟨rfl, rfl, rfl, rfl, rfl⟩ rfl rfl rfl rfl rfl (by kernel_rfl) Try.func3 (by kernel_rfl)
    (of_decide_eq_true (by kernel_rfl)) (by unfold Func.isWrapper; first | (rw [if_pos (by decide +kernel)]; kernel_rfl) | (rw [if_neg (by decide +kernel)]; exact ⟨rfl, rfl⟩))
    (fun os started H enc _ => lifted os started H enc)
/-- THE STATEMENT. -/
theorem proved : Rows.ParensAsksSaid := over
#print axioms proved
end Go.Proofs.Ytbjgoigdhijbgaa.parensAsks
