/-
  The contracts of the document's own answer for layer 2: within, Lines, Line, Column.
-/
import Derived.Test.YtngpiejigefhoaaDoorRefUtf
import Derived.Test.YtngpiejigefhoaaDoorPlaceWalks
namespace Go.Proofs.YtngpiejigefhoaaDoor
open Go.RowKit Go.PlainAid

theorem rwithin_any (s : ByteArray) (x : Int) (w : World) :
    Calls Tryd.prog 18 #[.string s, .int .i64 x] w fun e w' => e = .returned (.int .i64 (cl s x)) ∧ w = w' := by
  by_cases h0 : x < 0
  · have e : cl s x = 0 := by unfold cl; rw [if_pos h0]
    rw [e]
    go_enter Tryd.func18, Tryd.ntmps18
    go_wp2
    go_ret
    exact ⟨rfl, rfl⟩
  by_cases h1 : x ≤ s.size
  · have e : ((cl s x : Nat) : Int) = x := by unfold cl; rw [if_neg h0, if_pos h1]; omega
    rw [e]
    have h2 : 0 ≤ x := by omega
    go_enter Tryd.func18, Tryd.ntmps18
    go_wp2
    go_ret
    exact ⟨rfl, rfl⟩
  · have e : cl s x = s.size := by unfold cl; rw [if_neg h0, if_neg h1]
    rw [e]
    have h2 : 0 ≤ x := by omega
    go_enter Tryd.func18, Tryd.ntmps18
    go_wp2
    go_ret
    exact ⟨rfl, rfl⟩

set_option maxRecDepth 100000 in
set_option maxHeartbeats 4000000 in
theorem rlines_any (s : ByteArray) (w : World) (hs : s.size ≤ 1099511627776) :
    Calls Tryd.prog 12 #[.string s] w fun e w' => LinesAre s w e w' := by
  obtain ⟨i0, hi, hz0, hz1, hz2⟩ := info_parts info3
  have gb := get_bt s
  have hz2' := Lib.hid hz2
  clear hz2
  have HL : Hid (Lk w (w.alloc (.cells #[.int .i64 0] 3)) 0 s (.slice (some ⟨w.heap.size, 0, none⟩) 1 1)) :=
    ⟨World.ownsRow_lit w #[.int .i64 0] 1 (Nat.le_refl _) (by unfold maxLen; decide) rfl, Below.alloc (Below.refl _ w) (Nat.le_refl _) _⟩
  go_enter Tryd.func12, Tryd.ntmps12
  go_wp2_with fail
  go_loopw [3, 4] (fun v i wr => ∃ k : Nat, k ≤ s.size ∧ i = .int .i64 k ∧ Hid (Lk w wr k s v)) (fun _ i _ => s.size - (intOf i).toNat)
  case atStart => exact ⟨0, Nat.zero_le _, rfl, HL⟩
  case round =>
    obtain ⟨k, hk, rfl, HK⟩ := hrel
    obtain ⟨wB, rfl⟩ : ∃ wB : World, wB = wr := ⟨_, rfl⟩
    by_cases hlt : k < s.size
    · have hnk := nlc_le s k
      have x0 := bt_nonneg s k
      have x1 := bt_le s k
      have zle : w.heap.size ≤ wB.heap.size := HK.out.2.size
      by_cases hb : bt s k = 10
      · have HB := Lib.hid hb
        have hbe : (bt s k == 10) = true := by rw [hb]; rfl
        clear hb
        go_wp2_with (at_builtin; (refine wpList_append_own _ rfl _ _ 29 rfl w.heap.size 3 i0 (.int .i64 0) 1 8 Tryd.underlying29 hi hz0 hz1 hz2'.out rfl (by decide) _ _ _ rfl (HK.out.1.alloc _) ⟨wB.heap.size, 0, none⟩ 1 1 [.int .i64 ((k : Int) + 1)] rfl rfl (cell_one_new _ _ _) (by intro u hu; simp at hu; subst hu; rfl) (by unfold maxLen; omega) (by omega) (by simp; omega) ?_); intro v' w2 hown hgrow _)
        have R := Lib.hid (lk_put HK.out HB.out (Below.refl _ wB) _ hown hgrow)
        clear hown hgrow
        go_wp2_with fail
        go_roundw
        case rel => exact ⟨k + 1, by omega, by go_num, R⟩
        case measure => simp [intOf]; omega
      · have HB := Lib.hid hb
        have hbe : (bt s k == 10) = false := beq_false_of_ne hb
        clear hb
        go_wp2_with fail
        go_roundw
        case rel => exact ⟨k + 1, by omega, by go_num, lk_skip HK.out HB.out (Below.refl _ wB)⟩
        case measure => simp [intOf]; omega
    · obtain rfl : k = s.size := by omega
      have R := Lib.hid (lk_end HK.out)
      go_wp2_with fail
      go_ret
      exact R.out

set_option maxRecDepth 100000 in
theorem rline_any (s : ByteArray) (x : Int) (w : World) (hs : s.size ≤ 1099511627776) :
    Calls Tryd.prog 13 #[.string s, .int .i64 x] w fun e w' => e = .returned (.int .i64 ((nlc s (cl s x) : Int) + 1)) ∧ w = w' := by
  have gb := get_bt s
  have HW := Lib.hid (fun W => rwithin_any s x W)
  have c1 := cl_le s x
  obtain ⟨p, hp⟩ : ∃ p, p = cl s x := ⟨_, rfl⟩
  rw [← hp] at HW c1 ⊢
  clear hp
  obtain ⟨R, hR⟩ : ∃ R, R = nlc s p := ⟨_, rfl⟩
  rw [← hR]
  have HR := Lib.hid hR
  clear hR
  go_enter Tryd.func13, Tryd.ntmps13
  go_wp2
  go_loop [5, 6] (fun n i => ∃ k q : Nat, k ≤ p ∧ q ≤ k ∧ n = .int .i64 ((q : Int) + 1) ∧ i = .int .i64 k ∧ Hid (q = nlc s k)) (fun _ i => p - (intOf i).toNat)
  case atStart => exact ⟨0, 0, Nat.zero_le _, Nat.le_refl _, rfl, rfl, rfl⟩
  case round =>
    obtain ⟨k, q, hk, hq, rfl, rfl, HK⟩ := hrel
    by_cases hlt : k < p
    · have hl2 : k < s.size := by omega
      by_cases hb : bt s k = 10
      · have HB := Lib.hid hb
        have hbe : (bt s k == 10) = true := by rw [hb]; rfl
        clear hb
        go_wp2_with (go_at_call 18; refine (HW.out _).mono ?_; rintro e w' ⟨rfl, rfl⟩)
        go_round
        case rel => exact ⟨k + 1, q + 1, hlt, by omega, by go_num, by go_num, Lib.hid (by rw [nlc_hit HB.out, HK.out])⟩
        case measure => simp [intOf]; omega
      · have HB := Lib.hid hb
        have hbe : (bt s k == 10) = false := beq_false_of_ne hb
        clear hb
        go_wp2_with (go_at_call 18; refine (HW.out _).mono ?_; rintro e w' ⟨rfl, rfl⟩)
        go_round
        case rel => exact ⟨k + 1, q, hlt, by omega, rfl, by go_num, Lib.hid (by rw [nlc_miss HB.out, HK.out])⟩
        case measure => simp [intOf]; omega
    · obtain rfl : k = p := by omega
      go_wp2_with (go_at_call 18; refine (HW.out _).mono ?_; rintro e w' ⟨rfl, rfl⟩)
      go_ret
      exact ⟨ret_int (by rw [HR.out, HK.out]), rfl⟩

set_option maxRecDepth 100000 in
set_option maxHeartbeats 4000000 in
theorem rcolumn_any (s : ByteArray) (x : Int) (w : World) (hs : s.size ≤ 1099511627776) :
    Calls Tryd.prog 15 #[.string s, .int .i64 x] w fun e w' => e = .returned (.int .i64 (ct (ahead s x) 0)) ∧ ∃ n, w' = w.drewN n := by
  have gb := get_bt s
  have HW := Lib.hid (fun W => rwithin_any s x W)
  have c1 := cl_le s x
  have hz : (ahead s x).size ≤ maxLen := by unfold ahead maxLen; rw [size_ext _ _ _ c1]; omega
  obtain ⟨C, hC⟩ : ∃ C, C = ct (ahead s x) 0 := ⟨_, rfl⟩
  rw [← hC]
  have HC : Hid (∀ W, Calls Tryd.prog 21 #[.string (ahead s x)] W fun e w' => e = .returned (.int .i64 C) ∧ ∃ n, w' = W.drewN n) := by
    rw [hC]; exact fun W => rcount_any (ahead s x) W hz
  unfold ahead at HC
  clear hC hz
  obtain ⟨p, hp⟩ : ∃ p, p = cl s x := ⟨_, rfl⟩
  rw [← hp] at c1 HW HC
  clear hp
  go_enter Tryd.func15, Tryd.ntmps15
  go_wp2_with fail
  refine (HW.out _).mono ?_
  rintro e w' ⟨rfl, rfl⟩
  go_wp2_with fail
  go_loop [6] (fun i => ∃ k : Nat, k ≤ p ∧ i = .int .i64 k ∧ Hid (nlc s k = nlc s p)) (fun i => (intOf i).toNat)
  case atStart => exact ⟨p, Nat.le_refl _, rfl, rfl⟩
  case round =>
    obtain ⟨k, hk, rfl, HK⟩ := hrel
    by_cases h0 : 0 < k
    · have k1 : k - 1 < s.size := by omega
      have e1 : ((k : Int) - 1).toNat = k - 1 := by omega
      by_cases hb : bt s (k - 1) = 10
      · have HQ : Hid (lb s s.size (nlc s p) = k) := by rw [← HK.out]; exact lb_is (by omega) (.inr hb)
        rw [HQ.out] at HC
        have hbe : (bt s (k - 1) == 10) = true := by rw [hb]; rfl
        have hbn : (bt s (k - 1) != 10) = false := by rw [hb]; rfl
        clear hb
        go_wp2_with fail
        refine (HC.out _).mono ?_
        rintro e w' ⟨rfl, n, rfl⟩
        go_wp2
        go_ret
        exact ⟨rfl, n, rfl⟩
      · have HB : Hid (nlc s (k - 1) = nlc s p) := by
          have := nlc_miss hb
          rw [Nat.sub_add_cancel (by omega)] at this
          rw [← this]; exact HK.out
        have hbe : (bt s (k - 1) == 10) = false := beq_false_of_ne hb
        have hbn : (bt s (k - 1) != 10) = true := by simpa using hb
        clear hb
        go_wp2_with fail
        go_round
        case rel => exact ⟨k - 1, by omega, by go_num, HB⟩
        case measure => simp [intOf]; omega
    · obtain rfl : k = 0 := by omega
      have HQ : Hid (lb s s.size (nlc s p) = 0) := by rw [← HK.out]; exact lb_is (by omega) (.inl rfl)
      rw [HQ.out] at HC
      go_wp2_with fail
      refine (HC.out _).mono ?_
      rintro e w' ⟨rfl, n, rfl⟩
      go_wp2
      go_ret
      exact ⟨rfl, n, rfl⟩
end Go.Proofs.YtngpiejigefhoaaDoor
