/-
  THE DOCUMENT's parentheses.
-/
import Derived.Test.YtbjgoigdhijbgaaPrnFns
set_option linter.all false
namespace Go.Proofs.Ytbjgoigdhijbgaa
open Go.RowKit Go.PlainAid

set_option maxRecDepth 100000 in
set_option maxHeartbeats 8000000 in
theorem rhugs_any (op : ByteArray) (k : Int) (t : ByteArray) (v2 v3 v4 v5 v6 : Value) (w : World) :
    Calls Try.prog 8 #[.string op, .agg #[.int .i64 k, .string t, v2, v3, v4, v5, v6]] w fun e w' => e = .returned (.bool (hugI op k)) ∧ Below w.heap.size w w' := by
  obtain ⟨c0, c1, -⟩ := seven_new w k t v2 v3 v4 v5 v6
  have HN := Lib.hid (below1 w (.cells #[.int .i64 k, .string t, v2, v3, v4, v5, v6] 25))
  have hop : ((op.toList == [61]) = true ∧ hgO op = true) ∨ ((op.toList == [61]) = false ∧ (op.toList == [58, 58]) = true ∧ hgO op = true) ∨ ((op.toList == [61]) = false ∧ (op.toList == [58, 58]) = false ∧ (op.toList == [61, 62]) = true ∧ hgO op = true) ∨ ((op.toList == [61]) = false ∧ (op.toList == [58, 58]) = false ∧ (op.toList == [61, 62]) = false ∧ (op.toList == [58, 61]) = true ∧ hgO op = true) ∨ ((op.toList == [61]) = false ∧ (op.toList == [58, 58]) = false ∧ (op.toList == [61, 62]) = false ∧ (op.toList == [58, 61]) = false ∧ hgO op = false) := by
    unfold hgO
    cases (op.toList == [61]) <;> cases (op.toList == [58, 58]) <;> cases (op.toList == [61, 62]) <;> cases (op.toList == [58, 61]) <;> simp
  have hgd : hgO op = true → hugI op k = hugL.contains k := fun h => by rw [hugI, h, Bool.true_and]
  have hgn : hgO op = false → hugI op k = false := fun h => by rw [hugI, h, Bool.false_and]
  have hL : hugL.contains k = (k == 2 || k == 4 || k == 5 || k == 6 || k == 8 || k == 9 || k == 10 || k == 11 || k == 15 || k == 17 || k == 18 || k == 19 || k == 20 || k == 21) := by
    rw [Bool.eq_iff_iff]; simp [hugL, or_assoc]
  rw [hL] at hgd
  clear hL
  obtain ⟨R, hR⟩ : ∃ R, R = hugI op k := ⟨_, rfl⟩
  rw [← hR] at hgd hgn ⊢
  obtain ⟨O, hO⟩ : ∃ O, O = hgO op := ⟨_, rfl⟩
  rw [← hO] at hop hgd hgn
  clear hR hO
  have HGD := Lib.hid hgd
  have HGN := Lib.hid hgn
  clear hgd hgn
  rcases hop with ⟨e1, e9⟩ | ⟨e1, e2, e9⟩ | ⟨e1, e2, e3, e9⟩ | ⟨e1, e2, e3, e4, e9⟩ | ⟨e1, e2, e3, e4, e9⟩
  rotate_right
  · have hr := HGN.out e9
    rw [hr]
    clear hr e9
    go_enter Try.func8, Try.ntmps8
    go_wp2_with fail
    go_ret
    exact ⟨rfl, HN.out⟩
  all_goals
    have hr := HGD.out e9
    rw [hr]
    clear hr e9
    go_enter Try.func8, Try.ntmps8
    go_wp2_with fail
    all_goals
      go_ret
      exact ⟨by simp_all, HN.out⟩
set_option maxRecDepth 100000 in
set_option maxHeartbeats 8000000 in
theorem rbare_any (k : Int) (t : ByteArray) (v2 v3 v4 v5 v6 : Value) (w : World) (h1 : k = 1 → 0 < t.size) :
    Calls Try.prog 10 #[.agg #[.int .i64 k, .string t, v2, v3, v4, v5, v6]] w fun e w' => e = .returned (.bool (barI k t)) ∧ Below w.heap.size w w' := by
  obtain ⟨c0, c1, -⟩ := seven_new w k t v2 v3 v4 v5 v6
  have HN := Lib.hid (below1 w (.cells #[.int .i64 k, .string t, v2, v3, v4, v5, v6] 25))
  by_cases hk : k = 1
  · have h0 := h1 hk
    rw [show barI k t = nmB t from if_pos hk, nmB, dif_pos h0]
    subst hk
    clear h1
    have hne : (t.toList == []) = false := by
      have h2 := ba_len_toList t
      cases hl : t.toList with
      | nil => rw [hl] at h2; simp at h2; omega
      | cons => rfl
    have hne2 : (t.toList != []) = true := by simp [bne, hne]
    go_enter Try.func10, Try.ntmps10
    go_wp2_with fail
    all_goals
      go_ret
      refine ⟨?_, HN.out⟩
      refine congrArg (fun b => Ending.returned (Value.bool b)) ?_
      rw [Bool.eq_iff_iff] <;> simp <;> omega
  · rw [show barI k t = bareL.contains k from if_neg hk]
    have e1 : (k == 1) = false := by simpa using hk
    clear h1 hk
    have hL : bareL.contains k = (k == 2 || k == 3 || k == 8 || k == 9 || k == 10 || k == 11 || k == 12) := by
      rw [Bool.eq_iff_iff]; simp [bareL, or_assoc]
    rw [hL]
    clear hL
    go_enter Try.func10, Try.ntmps10
    go_wp2_with fail
    all_goals
      go_ret
      exact ⟨by simp_all, HN.out⟩
set_option maxRecDepth 100000 in
set_option maxHeartbeats 4000000 in
theorem rlevel_any (k : Int) (t : ByteArray) (v2 v3 v4 v5 v6 : Value) (w : World) :
    Calls Try.prog 12 #[.agg #[.int .i64 k, .string t, v2, v3, v4, v5, v6]] w fun e w' => e = .returned (.int .i64 (lvlI k t : Int)) ∧ Below w.heap.size w w' := by
  have HB := Lib.hid (fun W => rbin_any t W)
  obtain ⟨c0, c1, -⟩ := seven_new w k t v2 v3 v4 v5 v6
  have HN := Lib.hid (below1 w (.cells #[.int .i64 k, .string t, v2, v3, v4, v5, v6] 25))
  by_cases h13 : k = 13
  · rw [show lvlI k t = if (t.toList == [99, 97, 116, 99, 104]) = true then 0 else 10 from if_pos h13]
    subst h13
    cases ht : (t.toList == [99, 97, 116, 99, 104])
    all_goals
      go_enter Try.func12, Try.ntmps12
      go_wp2_with fail
      go_ret
      exact ⟨rfl, HN.out⟩
  · by_cases h14 : k = 14
    · rw [show lvlI k t = bn t.toList from (if_neg h13).trans (if_pos h14)]
      subst h14
      clear h13
      go_enter Try.func12, Try.ntmps12
      go_wp2_with fail
      refine (HB.out _).mono ?_
      rintro e w1 ⟨rfl, hb1⟩
      have HB1 : Hid (Below w.heap.size w w1) := Lib.hid (HN.out.trans (hb1.mono HN.out.size))
      clear hb1
      go_wp2_with fail
      go_ret
      exact ⟨rfl, HB1.out⟩
    · rw [show lvlI k t = 11 from (if_neg h13).trans (if_neg h14)]
      have e1 : (k == 13) = false := by simpa using h13
      have e2 : (k == 14) = false := by simpa using h14
      clear h13 h14
      go_enter Try.func12, Try.ntmps12
      go_wp2_with fail
      go_ret
      exact ⟨rfl, HN.out⟩
set_option maxRecDepth 100000 in
set_option maxHeartbeats 4000000 in
theorem rneed_any (k : Int) (t : ByteArray) (v2 v3 v4 v5 v6 : Value) (l : Int) (w : World) :
    Calls Try.prog 14 #[.agg #[.int .i64 k, .string t, v2, v3, v4, v5, v6], .int .i64 l] w fun e w' => e = .returned (.bool (decide ((lvlI k t : Int) < l))) ∧ Below w.heap.size w w' := by
  have HB := Lib.hid (fun W => rlevel_any k t v2 v3 v4 v5 v6 W)
  obtain ⟨m, hm⟩ : ∃ m : Nat, m = lvlI k t := ⟨_, rfl⟩
  rw [← hm] at HB ⊢
  clear hm
  by_cases h : (m : Int) < l
  all_goals
    go_enter Try.func14, Try.ntmps14
    go_wp2_with fail
    refine (HB.out _).mono ?_
    rintro e w1 ⟨rfl, hb1⟩
    go_wp2_with fail
    go_ret
    exact ⟨by simp [h] <;> omega, (below1 _ _).trans (hb1.mono (below1 _ _).size)⟩
end Go.Proofs.Ytbjgoigdhijbgaa
