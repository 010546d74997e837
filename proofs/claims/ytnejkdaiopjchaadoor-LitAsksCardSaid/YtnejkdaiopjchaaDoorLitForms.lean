/-
  Plain facts on texts that are built: digits of a number, escapes that say a code point. And the statements' own hex, octal, digits.
-/
import Derived.Test.YtnejkdaiopjchaaDoorLitTold
namespace Go.Proofs.YtnejkdaiopjchaaDoor
open Go.RowKit Go.PlainAid

/-- The sign of a digit below 16. -/
def hexb (d : Int) : Int := if d < 10 then 48 + d else 87 + d
theorem dg_hexb {d : Int} (h0 : 0 ≤ d) (h1 : d < 16) : dg (hexb d) = d := by
  unfold hexb
  by_cases h : d < 10
  · rw [if_pos h]; unfold dg; rw [if_pos (by omega)]; omega
  · rw [if_neg h]; unfold dg; rw [if_neg (by omega), if_neg (by omega), if_pos (by omega)]; omega
theorem rv_digits {s : ByteArray} {b c : Nat} (hb : 1 ≤ b) : ∀ (m j : Nat) (v : Int), (∀ i, i < m → dg (bt s (j + i)) = ((c / b ^ (m - 1 - i) % b : Nat) : Int)) → rc s b m j = m ∧ rv s b m j v = v * (b : Int) ^ m + ((c % b ^ m : Nat) : Int)
  | 0, _, v, _ => by simp [rc, rv, Nat.mod_one]
  | m + 1, j, v, h => by
    have h0 := h 0 (by omega)
    simp only [Nat.add_zero, Nat.add_sub_cancel, Nat.sub_zero] at h0
    have hlt : c / b ^ m % b < b := Nat.mod_lt _ (by omega)
    have ih := rv_digits hb m (j + 1) (v * (b : Int) + dg (bt s j)) (fun i hi => by
      have := h (i + 1) (by omega)
      rw [show j + 1 + i = j + (i + 1) by omega, this, show m + 1 - 1 - (i + 1) = m - 1 - i by omega])
    have hd : dg (bt s j) < (b : Int) := by rw [h0]; omega
    simp only [rc, rv, if_pos hd]
    refine ⟨by rw [ih.1]; omega, ?_⟩
    rw [ih.2, h0, Nat.mod_pow_succ]
    push_cast
    rw [Int.pow_succ, Int.add_mul, Int.mul_assoc, Int.mul_comm (b : Int) ((b : Int) ^ m), Int.mul_comm ((b : Int) ^ m) ((c : Int) / (b : Int) ^ m % (b : Int))]
    omega
theorem esc_hex6 {s : ByteArray} {k c : Nat} (h0 : bt s k = 92) (h1 : bt s (k + 1) = 120) (h2 : bt s (k + 2) = 123) (hd : ∀ i, i < 6 → bt s (k + 3 + i) = hexb ((c / 16 ^ (5 - i) % 16 : Nat) : Int)) (h9 : bt s (k + 9) = 125) (hp : isPt (c : Int) = true) : esc s k = ((c : Int), 10) := by
  have hc := pt_bd hp
  obtain ⟨r1, r2⟩ := rv_digits (s := s) (b := 16) (c := c) (by omega) 6 (k + 3) 0 (fun i hi => by
    rw [hd i hi, dg_hexb (by omega) (by omega)])
  have e2 : rv s 16 6 (k + 3) 0 = (c : Int) := by rw [show ((16 : Nat) : Int) = 16 from rfl] at r2; rw [r2]; omega
  have e1 : rc s 16 6 (k + 3) = 6 := r1
  have hx : hxd s (k + 1) = ((c : Int), 9) := by
    unfold hxd
    rw [show k + 1 + 1 = k + 2 by omega, if_pos h2, show k + 2 + 1 = k + 3 by omega, e1, e2, if_neg]
    rw [show k + 3 + 6 = k + 9 by omega, h9]
    omega
  have hm : mnt s (k + 1) = ((c : Int), 9) := by
    have hr : rc s 8 3 (k + 1) = 0 := by simp only [rc]; rw [h1, if_neg (by decide)]
    unfold mnt
    rw [hr, if_neg (by omega), if_pos h1, hx]
  unfold esc
  rw [if_pos ⟨bt_lt (by omega), h0⟩, hm]
  simp only
  rw [if_pos hp]
theorem esc_hex2 {s : ByteArray} {k c : Nat} (h0 : bt s k = 92) (h1 : bt s (k + 1) = 120) (hd : ∀ i, i < 2 → bt s (k + 2 + i) = hexb ((c / 16 ^ (1 - i) % 16 : Nat) : Int)) (hc : c < 256) : esc s k = ((c : Int), 4) := by
  obtain ⟨r1, r2⟩ := rv_digits (s := s) (b := 16) (c := c) (by omega) 2 (k + 2) 0 (fun i hi => by
    rw [hd i hi, dg_hexb (by omega) (by omega)])
  have e2 : rv s 16 2 (k + 2) 0 = (c : Int) := by rw [show ((16 : Nat) : Int) = 16 from rfl] at r2; rw [r2]; omega
  have e1 : rc s 16 2 (k + 2) = 2 := r1
  have h2 : bt s (k + 2) ≠ 123 := by
    have := hd 0 (by omega)
    rw [Nat.add_zero] at this
    rw [this]
    unfold hexb
    split <;> omega
  have hx : hxd s (k + 1) = ((c : Int), 3) := by
    unfold hxd
    rw [show k + 1 + 1 = k + 2 by omega, if_neg h2, e1, e2, if_neg (by omega)]
  have hm : mnt s (k + 1) = ((c : Int), 3) := by
    have hr : rc s 8 3 (k + 1) = 0 := by simp only [rc]; rw [h1, if_neg (by decide)]
    unfold mnt
    rw [hr, if_neg (by omega), if_pos h1, hx]
  unfold esc
  rw [if_pos ⟨bt_lt (by omega), h0⟩, hm]
  simp only
  rw [if_pos (show isPt (c : Int) = true from decide_eq_true (by omega))]
theorem esc_oct {s : ByteArray} {k c : Nat} (h0 : bt s k = 92) (hd : ∀ i, i < 3 → bt s (k + 1 + i) = 48 + ((c / 8 ^ (2 - i) % 8 : Nat) : Int)) (hc : c < 512) : esc s k = ((c : Int), 4) := by
  obtain ⟨r1, r2⟩ := rv_digits (s := s) (b := 8) (c := c) (by omega) 3 (k + 1) 0 (fun i hi => by
    rw [hd i hi, show 3 - 1 - i = 2 - i by omega]
    unfold dg
    rw [if_pos (by omega)]
    omega)
  have e2 : rv s 8 3 (k + 1) 0 = (c : Int) := by rw [show ((8 : Nat) : Int) = 8 from rfl] at r2; rw [r2]; omega
  have e1 : rc s 8 3 (k + 1) = 3 := r1
  have hm : mnt s (k + 1) = ((c : Int), 3) := by
    unfold mnt
    rw [e1, e2, if_pos (by omega)]
  unfold esc
  rw [if_pos ⟨bt_lt (by omega), h0⟩, hm]
  simp only
  rw [if_pos (show isPt (c : Int) = true from decide_eq_true (by omega))]
def hexT : ByteArray := { data := #[48, 49, 50, 51, 52, 53, 54, 55, 56, 57, 97, 98, 99, 100, 101, 102] }
def octT : ByteArray := { data := #[48, 49, 50, 51, 52, 53, 54, 55] }
def decT : ByteArray := { data := #[48, 49, 50, 51, 52, 53, 54, 55, 56, 57] }
theorem hexT_at : ∀ d : Fin 16, bt hexT d.val = hexb (d.val : Int) := by decide +kernel
theorem octT_at : ∀ d : Fin 8, bt octT d.val = 48 + (d.val : Int) := by decide +kernel
theorem decT_at : ∀ d : Fin 10, bt decT d.val = 48 + (d.val : Int) := by decide +kernel
/-- One digit ahead of what stands. -/
theorem bt_cons {T S : ByteArray} {d : Nat} (hd : d < T.size) : (T.extract d (d + 1) ++ S).size = S.size + 1 ∧ bt (T.extract d (d + 1) ++ S) 0 = bt T d ∧ ∀ i, bt (T.extract d (d + 1) ++ S) (i + 1) = bt S i := by
  have hz : (T.extract d (d + 1)).size = 1 := by rw [size_ext T d (d + 1) (by omega)]; omega
  refine ⟨by rw [ByteArray.size_append]; omega, ?_, fun i => ?_⟩
  · rw [bt_app_l _ _ _ (by omega), bt_ext T d (d + 1) 0 (by omega) (by omega), Nat.add_zero]
  · have := bt_app_r (T.extract d (d + 1)) S i
    rw [hz, Nat.add_comm 1 i] at this
    exact this
/-- The digits of a number, so many of them: what stands at each place. -/
def HexIs (c n : Nat) (S : ByteArray) : Prop := S.size = n ∧ ∀ i, i < n → bt S i = hexb ((c / 16 ^ (n - 1 - i) % 16 : Nat) : Int)
theorem HexIs.cons {c n d : Nat} {S : ByteArray} (h : HexIs c n S) (hd : d = c / 16 ^ n % 16) : HexIs c (n + 1) (hexT.extract d (d + 1) ++ S) := by
  have hlt : d < 16 := by rw [hd]; exact Nat.mod_lt _ (by omega)
  obtain ⟨e1, e2, e3⟩ := bt_cons (T := hexT) (S := S) (d := d) hlt
  refine ⟨by rw [e1, h.1], fun i hi => ?_⟩
  cases i with
  | zero =>
    rw [e2, hexT_at ⟨d, hlt⟩]
    show hexb (d : Int) = _
    rw [hd]; rfl
  | succ i => rw [e3, h.2 i (by omega), show n + 1 - 1 - (i + 1) = n - 1 - i by omega]
theorem hex_any (c n : Nat) (hc : c < 1099511627776) (hn : n ≤ 6) (w : World) :
    Calls Tryd.prog 20 #[.int .i64 c, .int .i64 n] w fun e w' => (∃ S, e = .returned (.string S) ∧ HexIs c n S) ∧ w = w' := by
  go_enter Tryd.func20, Tryd.ntmps20
  go_wp2_with fail
  go_loopg [0, 5, 6] n (fun gn v x i wr => ∃ (k d : Nat) (S : ByteArray), gn = n - k ∧ k ≤ n ∧ d < 1099511627776 ∧ v = .int .i64 d ∧ x = .string S ∧ i = .int .i64 k ∧ wr = w ∧ Hid (d = c / 16 ^ k) ∧ Hid (HexIs c k S))
  case atStart => exact ⟨0, c, ⟨#[]⟩, rfl, Nat.zero_le _, hc, rfl, rfl, rfl, rfl, Lib.hid (by simp), Lib.hid ⟨rfl, fun i hi => absurd hi (Nat.not_lt_zero _)⟩⟩
  case round =>
    obtain ⟨k, d, S, hgn, hk, hd, rfl, rfl, rfl, rfl, HD, HS⟩ := hrel
    by_cases hlt : k < n
    · have em : bits .and .i64 (d : Int) 15 = (d : Int) % 16 := bits_mask .i64 63 (by decide) wraps_i64 4 (by decide) (d : Int) (by omega) (by omega)
      obtain ⟨y, hy⟩ : ∃ y : Nat, y = d % 16 := ⟨_, rfl⟩
      have em2 : bits .and .i64 (d : Int) 15 = (y : Int) := by rw [em, hy]; omega
      have hy16 : y < 16 := by omega
      have HN : Hid (HexIs c (k + 1) (hexT.extract y (y + 1) ++ S)) := HS.out.cons (by rw [hy, HD.out])
      have HD2 := Lib.hid (show d / 16 = c / 16 ^ (k + 1) by rw [HD.out, Nat.div_div_eq_div_mul, Nat.pow_succ])
      have hSz := HS.out.1
      have hz : ({ data := #[48, 49, 50, 51, 52, 53, 54, 55, 56, 57, 97, 98, 99, 100, 101, 102] } : ByteArray).size = 16 := rfl
      have hz1 : (({ data := #[48, 49, 50, 51, 52, 53, 54, 55, 56, 57, 97, 98, 99, 100, 101, 102] } : ByteArray).extract y (y + 1)).size = 1 := by rw [size_ext _ _ _ (by rw [hz]; omega)]; omega
      clear em hy
      go_wp2_with fail
      go_roundg (n - (k + 1))
      case measure => omega
      case rel => exact ⟨k + 1, d / 16, _, rfl, hlt, by omega, by go_num, rfl, by go_num, rfl, HD2, HN⟩
    · obtain rfl : k = n := by omega
      go_wp2_with fail
      go_ret
      exact ⟨⟨S, rfl, HS.out⟩, rfl⟩
def OctIs (c n : Nat) (S : ByteArray) : Prop := S.size = n ∧ ∀ i, i < n → bt S i = 48 + ((c / 8 ^ (n - 1 - i) % 8 : Nat) : Int)
theorem OctIs.cons {c n d : Nat} {S : ByteArray} (h : OctIs c n S) (hd : d = c / 8 ^ n % 8) : OctIs c (n + 1) (octT.extract d (d + 1) ++ S) := by
  have hlt : d < 8 := by rw [hd]; exact Nat.mod_lt _ (by omega)
  obtain ⟨e1, e2, e3⟩ := bt_cons (T := octT) (S := S) (d := d) hlt
  refine ⟨by rw [e1, h.1], fun i hi => ?_⟩
  cases i with
  | zero =>
    rw [e2, octT_at ⟨d, hlt⟩]
    show 48 + (d : Int) = _
    rw [hd]; rfl
  | succ i => rw [e3, h.2 i (by omega), show n + 1 - 1 - (i + 1) = n - 1 - i by omega]
theorem octal_any (c : Nat) (hc : c < 1099511627776) (w : World) :
    Calls Tryd.prog 21 #[.int .i64 c] w fun e w' => (∃ S, e = .returned (.string S) ∧ OctIs c 3 S) ∧ w = w' := by
  go_enter Tryd.func21, Tryd.ntmps21
  go_wp2_with fail
  go_loopg [0, 3, 4] 3 (fun gn v x i wr => ∃ (k d : Nat) (S : ByteArray), gn = 3 - k ∧ k ≤ 3 ∧ d < 1099511627776 ∧ v = .int .i64 d ∧ x = .string S ∧ i = .int .i64 k ∧ wr = w ∧ Hid (d = c / 8 ^ k) ∧ Hid (OctIs c k S))
  case atStart => exact ⟨0, c, ⟨#[]⟩, rfl, Nat.zero_le _, hc, rfl, rfl, rfl, rfl, Lib.hid (by simp), Lib.hid ⟨rfl, fun i hi => absurd hi (Nat.not_lt_zero _)⟩⟩
  case round =>
    obtain ⟨k, d, S, hgn, hk, hd, rfl, rfl, rfl, rfl, HD, HS⟩ := hrel
    by_cases hlt : k < 3
    · have em : bits .and .i64 (d : Int) 7 = (d : Int) % 8 := bits_mask .i64 63 (by decide) wraps_i64 3 (by decide) (d : Int) (by omega) (by omega)
      obtain ⟨y, hy⟩ : ∃ y : Nat, y = d % 8 := ⟨_, rfl⟩
      have em2 : bits .and .i64 (d : Int) 7 = (y : Int) := by rw [em, hy]; omega
      have hy8 : y < 8 := by omega
      have HN : Hid (OctIs c (k + 1) (octT.extract y (y + 1) ++ S)) := HS.out.cons (by rw [hy, HD.out])
      have HD2 := Lib.hid (show d / 8 = c / 8 ^ (k + 1) by rw [HD.out, Nat.div_div_eq_div_mul, Nat.pow_succ])
      have hSz := HS.out.1
      have hz : ({ data := #[48, 49, 50, 51, 52, 53, 54, 55] } : ByteArray).size = 8 := rfl
      have hz1 : (({ data := #[48, 49, 50, 51, 52, 53, 54, 55] } : ByteArray).extract y (y + 1)).size = 1 := by rw [size_ext _ _ _ (by rw [hz]; omega)]; omega
      clear em hy
      go_wp2_with fail
      go_roundg (3 - (k + 1))
      case measure => omega
      case rel => exact ⟨k + 1, d / 8, _, rfl, hlt, by omega, by go_num, rfl, by go_num, rfl, HD2, HN⟩
    · obtain rfl : k = 3 := by omega
      go_wp2_with fail
      go_ret
      exact ⟨⟨S, rfl, HS.out⟩, rfl⟩
end Go.Proofs.YtnejkdaiopjchaaDoor
