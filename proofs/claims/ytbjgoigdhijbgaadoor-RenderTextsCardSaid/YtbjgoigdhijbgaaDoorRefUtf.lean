/-
  The document's own answers of layer 1 (Next, Valid, Count, Put): by contract, in the same words as the program's.
-/
import Derived.Test.YtbjgoigdhijbgaaDoorUtfs
namespace Go.Proofs.YtbjgoigdhijbgaaDoor
open Go.RowKit Go.PlainAid

theorem nat_and192 : ∀ a : Fin 256, a.val &&& 192 = a.val / 64 * 64 := by decide +kernel
theorem u8_and192 (x : Int) (h0 : 0 ≤ x) (h1 : x < 256) : bits .and .u8 x 192 = x / 64 * 64 := by
  have := nat_and192 ⟨x.toNat, by omega⟩
  simp only at this
  rw [u8_and x 192 h0 h1 (by decide) (by decide)]
  simp only [Int.reduceToNat]
  rw [this]; omega
theorem i64_and31 (x : Int) (h0 : 0 ≤ x) (h1 : x < 256) : bits .and .i64 x 31 = x % 32 := bits_mask .i64 63 (by decide) wraps_i64 5 (by decide) x h0 (by omega)
theorem i64_and15 (x : Int) (h0 : 0 ≤ x) (h1 : x < 256) : bits .and .i64 x 15 = x % 16 := bits_mask .i64 63 (by decide) wraps_i64 4 (by decide) x h0 (by omega)
theorem i64_and7 (x : Int) (h0 : 0 ≤ x) (h1 : x < 256) : bits .and .i64 x 7 = x % 8 := bits_mask .i64 63 (by decide) wraps_i64 3 (by decide) x h0 (by omega)

theorem rpoint_yes (c : Int) (w : World) (h : isPt c = true) :
    Calls Tryd.prog 55 #[.int .i64 c] w fun e w' => e = .returned (.bool true) ∧ w = w' := by
  have h' := of_decide_eq_true h
  have h0 : 0 ≤ c := by omega
  have h1 : c ≤ 1114111 := by omega
  clear h
  by_cases h2 : c < 55296
  · clear h'
    go_enter Tryd.func55, Tryd.ntmps55
    go_wp2
    go_ret
    exact ⟨rfl, rfl⟩
  · have h3 : 57343 < c := by omega
    have h2' : decide (c < 55296) = false := by simp; omega
    clear h' h2
    go_enter Tryd.func55, Tryd.ntmps55
    go_wp2
    go_ret
    exact ⟨rfl, rfl⟩
theorem rpoint_no (c : Int) (w : World) (h : isPt c = false) :
    Calls Tryd.prog 55 #[.int .i64 c] w fun e w' => e = .returned (.bool false) ∧ w = w' := by
  have h' := of_decide_eq_false h
  clear h
  by_cases h0 : 0 ≤ c
  · by_cases h1 : c ≤ 1114111
    · have h2 : decide (c < 55296) = false := by simp; omega
      have h3 : decide (57343 < c) = false := by simp; omega
      clear h'
      go_enter Tryd.func55, Tryd.ntmps55
      go_wp2
      go_ret
      exact ⟨rfl, rfl⟩
    · have h2 : decide (c ≤ 1114111) = false := by simp; omega
      clear h' h1
      go_enter Tryd.func55, Tryd.ntmps55
      go_wp2
      go_ret
      exact ⟨rfl, rfl⟩
  · have h2 : decide (0 ≤ c) = false := by simp; omega
    clear h' h0
    go_enter Tryd.func55, Tryd.ntmps55
    go_wp2
    go_ret
    exact ⟨rfl, rfl⟩

theorem rnext_out (s : ByteArray) (i : Int) (w : World) (h : i < 0 ∨ (s.size : Int) ≤ i) :
    Calls Tryd.prog 48 #[.string s, .int .i64 i] w fun e w' => e = .returned (.tuple #[.int .i64 0, .int .i64 0]) ∧ ∃ n, w' = w.drewN n := by
  rcases h with h | h
  · go_enter Tryd.func48, Tryd.ntmps48
    go_wp2
    go_ret2
    exact ⟨rfl, 0, rfl⟩
  · have h0 : 0 ≤ i := by omega
    go_enter Tryd.func48, Tryd.ntmps48
    go_wp2
    go_ret2
    exact ⟨rfl, 0, rfl⟩
theorem rnext_ascii (s : ByteArray) (k : Nat) (w : World) (hk : k < s.size) (h : bt s k < 128) :
    Calls Tryd.prog 48 #[.string s, .int .i64 k] w fun e w' => e = .returned (.tuple #[.int .i64 (bt s k), .int .i64 1]) ∧ ∃ n, w' = w.drewN n := by
  have gb := get_bt s
  have x0 := bt_nonneg s k
  go_enter Tryd.func48, Tryd.ntmps48
  go_wp2
  go_ret2
  exact ⟨rfl, 0, rfl⟩
theorem rnext_none (s : ByteArray) (k : Nat) (w : World) (hk : k < s.size) (h : 128 ≤ bt s k ∧ bt s k < 192 ∨ 248 ≤ bt s k) :
    Calls Tryd.prog 48 #[.string s, .int .i64 k] w fun e w' => e = .returned (.tuple #[.int .i64 (-1), .int .i64 1]) ∧ ∃ n, w' = w.drewN n := by
  have gb := get_bt s
  have x0 := bt_nonneg s k
  have x1 := bt_le s k
  rcases h with ⟨h, h'⟩ | h
  · go_enter Tryd.func48, Tryd.ntmps48
    go_wp2
    go_ret2
    exact ⟨rfl, 0, rfl⟩
  · have d1 : decide (bt s k < 224) = false := by simp; omega
    have d2 : decide (bt s k < 240) = false := by simp; omega
    have d3 : decide (bt s k < 248) = false := by simp; omega
    have d4 : 192 ≤ bt s k := by omega
    have d5 : 224 ≤ bt s k := by omega
    have d6 : 240 ≤ bt s k := by omega
    go_enter Tryd.func48, Tryd.ntmps48
    go_wp2
    go_ret2
    exact ⟨rfl, 0, rfl⟩
theorem rjp_next {s : ByteArray} {h j : Int} {k i : Nat} (h1 : 1 ≤ i) (hj : j = jp s k h (i - 1)) (c1 : 128 ≤ bt s (k + i)) (c2 : bt s (k + i) < 192) : j * 64 + bt s (k + i) % 64 = jp s k h (i + 1 - 1) := by
  obtain ⟨m, rfl⟩ : ∃ m, i = m + 1 := ⟨i - 1, by omega⟩
  simp only [Nat.add_sub_cancel] at hj ⊢
  simp only [jp]
  rw [← hj]
  omega
theorem rokn_next {s : ByteArray} {k i : Nat} (h1 : 1 ≤ i) (ho : okn s k (i - 1) = true) (c1 : 128 ≤ bt s (k + i)) (c2 : bt s (k + i) < 192) : okn s k (i + 1 - 1) = true := by
  obtain ⟨m, rfl⟩ : ∃ m, i = m + 1 := ⟨i - 1, by omega⟩
  simp only [Nat.add_sub_cancel] at ho ⊢
  simp only [okn, ho, Bool.true_and]
  exact decide_eq_true ⟨c1, c2⟩
theorem rjv_stop {s : ByteArray} {n k i : Nat} (h1 : 1 ≤ i) (h2 : i < n) (hc : ¬ (128 ≤ bt s (k + i) ∧ bt s (k + i) < 192)) : jv s k n = -1 := by
  unfold jv
  rw [if_neg]
  intro h
  exact hc (okn_all (n - 1) h i h1 (by omega))
theorem nc_stop {s : ByteArray} {k n : Nat} (hl : ln (bt s k) = n) (h : jv s k n = -1) : nc s k = -1 := by
  unfold nc
  rw [hl, h]
  split
  · rfl
  · split
    · rfl
    · rfl
theorem nl_neg {s : ByteArray} {k : Nat} (h : nc s k = -1) : nl s k = 1 := by
  unfold nl; rw [h]; rfl
theorem nc_jv {s : ByteArray} {k n : Nat} (hl : ln (bt s k) = n) (hn : n ≠ 0) (hs : k + n ≤ s.size) : nc s k = if jv s k n < lstOf n then -1 else if isPt (jv s k n) = true then jv s k n else -1 := by
  conv => lhs; unfold nc
  rw [hl, if_neg (by omega)]
theorem ret2_int {a b c d : Int} (h : a = b) (h' : c = d) : Ending.returned (.tuple #[.int .i64 a, .int .i64 c]) = .returned (.tuple #[.int .i64 b, .int .i64 d]) := by rw [h, h']

set_option maxRecDepth 100000 in
set_option maxHeartbeats 4000000 in
theorem rnext_2 (s : ByteArray) (k : Nat) (w : World) (hk : k < s.size) (hs : s.size ≤ maxLen) (h0 : 192 ≤ bt s k) (h1 : bt s k < 224) :
    Calls Tryd.prog 48 #[.string s, .int .i64 k] w fun e w' => e = .returned (.tuple #[.int .i64 (nc s k), .int .i64 (nl s k)]) ∧ ∃ n, w' = w.drewN n := by
  unfold maxLen at hs
  have hl : ln (bt s k) = 2 := by unfold ln; rw [if_neg (by omega), if_neg (by omega), if_pos (by omega)]
  have gb := get_bt s
  have x0 := bt_nonneg s k
  have hm := i64_and31 (bt s k) x0 (by omega)
  by_cases hend : s.size < k + 2
  · have e1 : nc s k = -1 := by unfold nc; rw [hl, if_pos (.inr hend)]
    have e2 := nl_neg e1
    rw [e1, e2]
    clear e1 e2 hl
    go_enter Tryd.func48, Tryd.ntmps48
    go_wp2
    go_ret2
    exact ⟨rfl, 0, rfl⟩
  · have hin : k + 2 ≤ s.size := by omega
    clear hend
    have HL := Lib.hid hl
    have hj0 : bt s k % 32 = jp s k (hdOf 2) 0 := by simp only [jp, hdOf]; omega
    have HJ0 := Lib.hid hj0
    clear hl hj0
    obtain ⟨C, hC⟩ : ∃ C, C = nc s k := ⟨_, rfl⟩
    obtain ⟨L, hL⟩ : ∃ L, L = nl s k := ⟨_, rfl⟩
    rw [← hC, ← hL]
    have HC := Lib.hid hC
    have HLL := Lib.hid hL
    clear hC hL
    go_enter Tryd.func48, Tryd.ntmps48
    go_wp2
    go_loop [6, 9] (fun c i => ∃ m : Nat, 1 ≤ m ∧ m ≤ 2 ∧ i = .int .i64 m ∧ c = .int .i64 (jp s k (hdOf 2) (m - 1)) ∧ okn s k (m - 1) = true) (fun _ i => 2 - (intOf i).toNat)
    case atStart => exact ⟨1, Nat.le_refl _, by omega, rfl, by rw [HJ0.out], rfl⟩
    case round =>
      obtain ⟨m, hm1, hm2, rfl, rfl, hok⟩ := hrel
      have J := jp_bd s k 2 HL.out (by omega) (m - 1) hok
      obtain ⟨j, hj⟩ : ∃ j, j = jp s k (hdOf 2) (m - 1) := ⟨_, rfl⟩
      rw [← hj] at J ⊢
      have J0 := J.1
      clear hm
      have HO := Lib.hid hok
      have HJ := Lib.hid hj
      clear hok hj
      by_cases hlt : m < 2
      · have J1 : j < 1048576 := by
          have : (64 : Int) ^ (m - 1) ≤ 4096 := by
            obtain h | h | h : m - 1 = 0 ∨ m - 1 = 1 ∨ m - 1 = 2 := by omega
            all_goals (rw [h]; decide)
          omega
        clear J
        have y0 := bt_nonneg s (k + m)
        have y1 := bt_le s (k + m)
        have e1 := u8_and63 (bt s (k + m)) y0 (by omega)
        have e2 := u8_and192 (bt s (k + m)) y0 (by omega)
        by_cases hco : 128 ≤ bt s (k + m) ∧ bt s (k + m) < 192
        · obtain ⟨c1, c2⟩ := hco
          have e3 : bt s (k + m) / 64 * 64 = 128 := by omega
          rw [e3] at e2
          clear e3
          go_wp2
          go_round
          case rel => exact ⟨m + 1, by omega, by omega, by go_num, by rw [rjp_next hm1 HJ.out c1 c2], rokn_next hm1 HO.out c1 c2⟩
          case measure => simp [intOf]; omega
        · have e3 : (bt s (k + m) / 64 * 64 == 128) = false := by simp; omega
          have HN := Lib.hid (nc_stop HL.out (rjv_stop hm1 hlt hco))
          have HN2 := Lib.hid (nl_neg HN.out)
          clear hco
          go_wp2
          go_ret2
          exact ⟨ret2_int (by rw [HC.out, HN.out]) (by rw [HLL.out, HN2.out]; rfl), 0, rfl⟩
      · obtain rfl : m = 2 := by omega
        have hv : jv s k 2 = j := by unfold jv; rw [if_pos HO.out, HJ.out]
        have hnc := nc_jv HL.out (by omega) hin
        rw [hv] at hnc
        simp only [lstOf] at hnc
        have HV := Lib.hid hv
        clear hv J
        by_cases hls : j < 128
        · rw [if_pos hls] at hnc
          have HN := Lib.hid hnc
          have HN2 := Lib.hid (nl_neg HN.out)
          clear hnc
          go_wp2
          go_ret2
          exact ⟨ret2_int (by rw [HC.out, HN.out]) (by rw [HLL.out, HN2.out]; rfl), 0, rfl⟩
        · rw [if_neg hls] at hnc
          by_cases hp : isPt j = true
          · rw [if_pos hp] at hnc
            have HN := Lib.hid hnc
            have HN2 := Lib.hid (nl_of HL.out HN.out J0)
            have HP := Lib.hid hp
            clear hnc hp
            go_wp2_with (go_at_call 55; refine (rpoint_yes _ _ HP.out).mono ?_; rintro e w' ⟨rfl, rfl⟩)
            go_ret2
            exact ⟨ret2_int (by rw [HC.out, HN.out]) (by rw [HLL.out, HN2.out]; rfl), 0, rfl⟩
          · rw [if_neg hp] at hnc
            have HN := Lib.hid hnc
            have HN2 := Lib.hid (nl_neg HN.out)
            have HP := Lib.hid (Bool.eq_false_iff.2 hp)
            clear hnc hp
            go_wp2_with (go_at_call 55; refine (rpoint_no _ _ HP.out).mono ?_; rintro e w' ⟨rfl, rfl⟩)
            go_ret2
            exact ⟨ret2_int (by rw [HC.out, HN.out]) (by rw [HLL.out, HN2.out]; rfl), 0, rfl⟩

set_option maxRecDepth 100000 in
set_option maxHeartbeats 4000000 in
theorem rnext_3 (s : ByteArray) (k : Nat) (w : World) (hk : k < s.size) (hs : s.size ≤ maxLen) (h0 : 224 ≤ bt s k) (h1 : bt s k < 240) :
    Calls Tryd.prog 48 #[.string s, .int .i64 k] w fun e w' => e = .returned (.tuple #[.int .i64 (nc s k), .int .i64 (nl s k)]) ∧ ∃ n, w' = w.drewN n := by
  unfold maxLen at hs
  have hl : ln (bt s k) = 3 := by unfold ln; rw [if_neg (by omega), if_neg (by omega), if_neg (by omega), if_pos (by omega)]
  have gb := get_bt s
  have x0 := bt_nonneg s k
  have d1 : decide (bt s k < 224) = false := by simp; omega
  have d4 : 192 ≤ bt s k := by omega
  have hm := i64_and15 (bt s k) x0 (by omega)
  by_cases hend : s.size < k + 3
  · have e1 : nc s k = -1 := by unfold nc; rw [hl, if_pos (.inr hend)]
    have e2 := nl_neg e1
    rw [e1, e2]
    clear e1 e2 hl
    go_enter Tryd.func48, Tryd.ntmps48
    go_wp2
    go_ret2
    exact ⟨rfl, 0, rfl⟩
  · have hin : k + 3 ≤ s.size := by omega
    clear hend
    have HL := Lib.hid hl
    have hj0 : bt s k % 16 = jp s k (hdOf 3) 0 := by simp only [jp, hdOf]; omega
    have HJ0 := Lib.hid hj0
    clear hl hj0
    obtain ⟨C, hC⟩ : ∃ C, C = nc s k := ⟨_, rfl⟩
    obtain ⟨L, hL⟩ : ∃ L, L = nl s k := ⟨_, rfl⟩
    rw [← hC, ← hL]
    have HC := Lib.hid hC
    have HLL := Lib.hid hL
    clear hC hL
    go_enter Tryd.func48, Tryd.ntmps48
    go_wp2
    go_loop [6, 9] (fun c i => ∃ m : Nat, 1 ≤ m ∧ m ≤ 3 ∧ i = .int .i64 m ∧ c = .int .i64 (jp s k (hdOf 3) (m - 1)) ∧ okn s k (m - 1) = true) (fun _ i => 3 - (intOf i).toNat)
    case atStart => exact ⟨1, Nat.le_refl _, by omega, rfl, by rw [HJ0.out], rfl⟩
    case round =>
      obtain ⟨m, hm1, hm2, rfl, rfl, hok⟩ := hrel
      have J := jp_bd s k 3 HL.out (by omega) (m - 1) hok
      obtain ⟨j, hj⟩ : ∃ j, j = jp s k (hdOf 3) (m - 1) := ⟨_, rfl⟩
      rw [← hj] at J ⊢
      have J0 := J.1
      clear hm
      have HO := Lib.hid hok
      have HJ := Lib.hid hj
      clear hok hj
      by_cases hlt : m < 3
      · have J1 : j < 1048576 := by
          have : (64 : Int) ^ (m - 1) ≤ 4096 := by
            obtain h | h | h : m - 1 = 0 ∨ m - 1 = 1 ∨ m - 1 = 2 := by omega
            all_goals (rw [h]; decide)
          omega
        clear J
        have y0 := bt_nonneg s (k + m)
        have y1 := bt_le s (k + m)
        have e1 := u8_and63 (bt s (k + m)) y0 (by omega)
        have e2 := u8_and192 (bt s (k + m)) y0 (by omega)
        by_cases hco : 128 ≤ bt s (k + m) ∧ bt s (k + m) < 192
        · obtain ⟨c1, c2⟩ := hco
          have e3 : bt s (k + m) / 64 * 64 = 128 := by omega
          rw [e3] at e2
          clear e3
          go_wp2
          go_round
          case rel => exact ⟨m + 1, by omega, by omega, by go_num, by rw [rjp_next hm1 HJ.out c1 c2], rokn_next hm1 HO.out c1 c2⟩
          case measure => simp [intOf]; omega
        · have e3 : (bt s (k + m) / 64 * 64 == 128) = false := by simp; omega
          have HN := Lib.hid (nc_stop HL.out (rjv_stop hm1 hlt hco))
          have HN2 := Lib.hid (nl_neg HN.out)
          clear hco
          go_wp2
          go_ret2
          exact ⟨ret2_int (by rw [HC.out, HN.out]) (by rw [HLL.out, HN2.out]; rfl), 0, rfl⟩
      · obtain rfl : m = 3 := by omega
        have hv : jv s k 3 = j := by unfold jv; rw [if_pos HO.out, HJ.out]
        have hnc := nc_jv HL.out (by omega) hin
        rw [hv] at hnc
        simp only [lstOf] at hnc
        have HV := Lib.hid hv
        clear hv J
        by_cases hls : j < 2048
        · rw [if_pos hls] at hnc
          have HN := Lib.hid hnc
          have HN2 := Lib.hid (nl_neg HN.out)
          clear hnc
          go_wp2
          go_ret2
          exact ⟨ret2_int (by rw [HC.out, HN.out]) (by rw [HLL.out, HN2.out]; rfl), 0, rfl⟩
        · rw [if_neg hls] at hnc
          by_cases hp : isPt j = true
          · rw [if_pos hp] at hnc
            have HN := Lib.hid hnc
            have HN2 := Lib.hid (nl_of HL.out HN.out J0)
            have HP := Lib.hid hp
            clear hnc hp
            go_wp2_with (go_at_call 55; refine (rpoint_yes _ _ HP.out).mono ?_; rintro e w' ⟨rfl, rfl⟩)
            go_ret2
            exact ⟨ret2_int (by rw [HC.out, HN.out]) (by rw [HLL.out, HN2.out]; rfl), 0, rfl⟩
          · rw [if_neg hp] at hnc
            have HN := Lib.hid hnc
            have HN2 := Lib.hid (nl_neg HN.out)
            have HP := Lib.hid (Bool.eq_false_iff.2 hp)
            clear hnc hp
            go_wp2_with (go_at_call 55; refine (rpoint_no _ _ HP.out).mono ?_; rintro e w' ⟨rfl, rfl⟩)
            go_ret2
            exact ⟨ret2_int (by rw [HC.out, HN.out]) (by rw [HLL.out, HN2.out]; rfl), 0, rfl⟩

set_option maxRecDepth 100000 in
set_option maxHeartbeats 4000000 in
theorem rnext_4 (s : ByteArray) (k : Nat) (w : World) (hk : k < s.size) (hs : s.size ≤ maxLen) (h0 : 240 ≤ bt s k) (h1 : bt s k < 248) :
    Calls Tryd.prog 48 #[.string s, .int .i64 k] w fun e w' => e = .returned (.tuple #[.int .i64 (nc s k), .int .i64 (nl s k)]) ∧ ∃ n, w' = w.drewN n := by
  unfold maxLen at hs
  have hl : ln (bt s k) = 4 := by unfold ln; rw [if_neg (by omega), if_neg (by omega), if_neg (by omega), if_neg (by omega), if_pos (by omega)]
  have gb := get_bt s
  have x0 := bt_nonneg s k
  have d1 : decide (bt s k < 224) = false := by simp; omega
  have d4 : 192 ≤ bt s k := by omega
  have d2 : decide (bt s k < 240) = false := by simp; omega
  have d5 : 224 ≤ bt s k := by omega
  have hm := i64_and7 (bt s k) x0 (by omega)
  by_cases hend : s.size < k + 4
  · have e1 : nc s k = -1 := by unfold nc; rw [hl, if_pos (.inr hend)]
    have e2 := nl_neg e1
    rw [e1, e2]
    clear e1 e2 hl
    go_enter Tryd.func48, Tryd.ntmps48
    go_wp2
    go_ret2
    exact ⟨rfl, 0, rfl⟩
  · have hin : k + 4 ≤ s.size := by omega
    clear hend
    have HL := Lib.hid hl
    have hj0 : bt s k % 8 = jp s k (hdOf 4) 0 := by simp only [jp, hdOf]; omega
    have HJ0 := Lib.hid hj0
    clear hl hj0
    obtain ⟨C, hC⟩ : ∃ C, C = nc s k := ⟨_, rfl⟩
    obtain ⟨L, hL⟩ : ∃ L, L = nl s k := ⟨_, rfl⟩
    rw [← hC, ← hL]
    have HC := Lib.hid hC
    have HLL := Lib.hid hL
    clear hC hL
    go_enter Tryd.func48, Tryd.ntmps48
    go_wp2
    go_loop [6, 9] (fun c i => ∃ m : Nat, 1 ≤ m ∧ m ≤ 4 ∧ i = .int .i64 m ∧ c = .int .i64 (jp s k (hdOf 4) (m - 1)) ∧ okn s k (m - 1) = true) (fun _ i => 4 - (intOf i).toNat)
    case atStart => exact ⟨1, Nat.le_refl _, by omega, rfl, by rw [HJ0.out], rfl⟩
    case round =>
      obtain ⟨m, hm1, hm2, rfl, rfl, hok⟩ := hrel
      have J := jp_bd s k 4 HL.out (by omega) (m - 1) hok
      obtain ⟨j, hj⟩ : ∃ j, j = jp s k (hdOf 4) (m - 1) := ⟨_, rfl⟩
      rw [← hj] at J ⊢
      have J0 := J.1
      clear hm
      have HO := Lib.hid hok
      have HJ := Lib.hid hj
      clear hok hj
      by_cases hlt : m < 4
      · have J1 : j < 1048576 := by
          have : (64 : Int) ^ (m - 1) ≤ 4096 := by
            obtain h | h | h : m - 1 = 0 ∨ m - 1 = 1 ∨ m - 1 = 2 := by omega
            all_goals (rw [h]; decide)
          omega
        clear J
        have y0 := bt_nonneg s (k + m)
        have y1 := bt_le s (k + m)
        have e1 := u8_and63 (bt s (k + m)) y0 (by omega)
        have e2 := u8_and192 (bt s (k + m)) y0 (by omega)
        by_cases hco : 128 ≤ bt s (k + m) ∧ bt s (k + m) < 192
        · obtain ⟨c1, c2⟩ := hco
          have e3 : bt s (k + m) / 64 * 64 = 128 := by omega
          rw [e3] at e2
          clear e3
          go_wp2
          go_round
          case rel => exact ⟨m + 1, by omega, by omega, by go_num, by rw [rjp_next hm1 HJ.out c1 c2], rokn_next hm1 HO.out c1 c2⟩
          case measure => simp [intOf]; omega
        · have e3 : (bt s (k + m) / 64 * 64 == 128) = false := by simp; omega
          have HN := Lib.hid (nc_stop HL.out (rjv_stop hm1 hlt hco))
          have HN2 := Lib.hid (nl_neg HN.out)
          clear hco
          go_wp2
          go_ret2
          exact ⟨ret2_int (by rw [HC.out, HN.out]) (by rw [HLL.out, HN2.out]; rfl), 0, rfl⟩
      · obtain rfl : m = 4 := by omega
        have hv : jv s k 4 = j := by unfold jv; rw [if_pos HO.out, HJ.out]
        have hnc := nc_jv HL.out (by omega) hin
        rw [hv] at hnc
        simp only [lstOf] at hnc
        have HV := Lib.hid hv
        clear hv J
        by_cases hls : j < 65536
        · rw [if_pos hls] at hnc
          have HN := Lib.hid hnc
          have HN2 := Lib.hid (nl_neg HN.out)
          clear hnc
          go_wp2
          go_ret2
          exact ⟨ret2_int (by rw [HC.out, HN.out]) (by rw [HLL.out, HN2.out]; rfl), 0, rfl⟩
        · rw [if_neg hls] at hnc
          by_cases hp : isPt j = true
          · rw [if_pos hp] at hnc
            have HN := Lib.hid hnc
            have HN2 := Lib.hid (nl_of HL.out HN.out J0)
            have HP := Lib.hid hp
            clear hnc hp
            go_wp2_with (go_at_call 55; refine (rpoint_yes _ _ HP.out).mono ?_; rintro e w' ⟨rfl, rfl⟩)
            go_ret2
            exact ⟨ret2_int (by rw [HC.out, HN.out]) (by rw [HLL.out, HN2.out]; rfl), 0, rfl⟩
          · rw [if_neg hp] at hnc
            have HN := Lib.hid hnc
            have HN2 := Lib.hid (nl_neg HN.out)
            have HP := Lib.hid (Bool.eq_false_iff.2 hp)
            clear hnc hp
            go_wp2_with (go_at_call 55; refine (rpoint_no _ _ HP.out).mono ?_; rintro e w' ⟨rfl, rfl⟩)
            go_ret2
            exact ⟨ret2_int (by rw [HC.out, HN.out]) (by rw [HLL.out, HN2.out]; rfl), 0, rfl⟩

/-- THE DOCUMENT's NEXT WITHIN A TEXT. -/
theorem rnext_in (s : ByteArray) (k : Nat) (w : World) (hk : k < s.size) (hs : s.size ≤ maxLen) :
    Calls Tryd.prog 48 #[.string s, .int .i64 k] w fun e w' => e = .returned (.tuple #[.int .i64 (nc s k), .int .i64 (nl s k)]) ∧ ∃ n, w' = w.drewN n := by
  have x0 := bt_nonneg s k
  by_cases h1 : bt s k < 128
  · have hl : ln (bt s k) = 1 := by unfold ln; rw [if_pos h1]
    have hc : nc s k = bt s k := nc_of hl (by omega) (by omega) rfl (by simp only [jp, hdOf, Nat.sub_self]; omega) (by simp only [lstOf]; omega) (decide_eq_true (by omega))
    rw [nl_of hl hc x0, hc]
    exact rnext_ascii s k w hk h1
  by_cases h2 : bt s k < 192
  · have hl : ln (bt s k) = 0 := by unfold ln; rw [if_neg h1, if_pos h2]
    have hc : nc s k = -1 := by unfold nc; rw [hl, if_pos (.inl rfl)]
    rw [nl_neg hc, hc]
    exact rnext_none s k w hk (.inl ⟨by omega, h2⟩)
  by_cases h3 : bt s k < 224
  · exact rnext_2 s k w hk hs (by omega) h3
  by_cases h4 : bt s k < 240
  · exact rnext_3 s k w hk hs (by omega) h4
  by_cases h5 : bt s k < 248
  · exact rnext_4 s k w hk hs (by omega) h5
  · have hl : ln (bt s k) = 0 := by unfold ln; rw [if_neg h1, if_neg h2, if_neg h3, if_neg h4, if_neg h5]
    have hc : nc s k = -1 := by unfold nc; rw [hl, if_pos (.inl rfl)]
    rw [nl_neg hc, hc]
    exact rnext_none s k w hk (.inr (by omega))

/-- THE DOCUMENT's COUNT. -/
theorem rcount_any (s : ByteArray) (w : World) (hs : s.size ≤ maxLen) :
    Calls Tryd.prog 35 #[.string s] w fun e w' => e = .returned (.int .i64 (ct s 0)) ∧ ∃ n, w' = w.drewN n := by
  have HS := Lib.hid hs
  unfold maxLen at hs
  obtain ⟨v, hv⟩ : ∃ v, v = ct s 0 := ⟨_, rfl⟩
  rw [← hv]
  have HV := Lib.hid hv
  clear hv
  go_enter Tryd.func35, Tryd.ntmps35
  go_wp2
  go_loopw [3, 4] (fun c i wr => ∃ k q : Nat, k ≤ s.size ∧ q ≤ k ∧ c = .int .i64 q ∧ i = .int .i64 k ∧ Hid (v = q + ct s k) ∧ Hid (∃ n, wr = w.drewN n)) (fun _ i _ => s.size - (intOf i).toNat)
  case atStart => exact ⟨0, 0, Nat.zero_le _, Nat.le_refl _, rfl, rfl, by rw [Nat.zero_add]; exact HV, ⟨0, rfl⟩⟩
  case round =>
    obtain ⟨k, q, hk, hq, rfl, rfl, HK, HW⟩ := hrel
    obtain ⟨n0, rfl⟩ := HW.out
    by_cases hlt : k < s.size
    · have l1 := nl_in s k hlt
      have l2 := nl_pos s k
      have HF := Lib.hid (HK.out.trans (by rw [ct_go hlt] : q + ct s k = q + (1 + ct s (k + nl s k))))
      go_wp2_with (go_at_call 48; refine (rnext_in s k _ hlt HS.out).mono ?_; rintro e w' ⟨rfl, m, rfl⟩)
      go_roundw
      case rel => exact ⟨k + nl s k, q + 1, l1, by omega, by go_num, by go_num, Lib.hid (HF.out.trans (by omega)), ⟨_, rfl⟩⟩
      case measure => simp [intOf]; omega
    · have HF := Lib.hid (HK.out.trans (by rw [ct_end hlt] : q + ct s k = q + 0))
      go_wp2
      go_ret
      exact ⟨ret_int (by rw [HF.out]; rfl), n0, rfl⟩

theorem conv_lit (w : World) (l : List UInt8) (cells : Array Value) (n : Nat) (hn : l.length = n) (hc : ∀ j (hj : j < l.length), cells[j]? = some (.int .u8 (l[j].toNat : Int))) :
    (convert 35 9 (.slice (some ⟨w.heap.size, 0, none⟩) n n)).run Tryd.prog (w.alloc (.cells cells 5)) = .ok (.string ⟨l.toArray⟩) (w.alloc (.cells cells 5)) := by
  subst hn
  refine run_convert_bytes_back (P := Tryd.prog) _ 35 9 5 ⟨w.heap.size, 0, none⟩ l.length l Tryd.underlying35 Tryd.underlying5 Tryd.underlying9 ?_
  intro j hj
  have := hc j hj
  have e : (⟨w.heap.size, 0, none⟩ : Addr).add j = ⟨w.heap.size, j, none⟩ := by simp [Addr.add]; exact fun h => h.symm
  rw [e, World.cell?_alloc_new]
  exact this
end Go.Proofs.YtbjgoigdhijbgaaDoor
