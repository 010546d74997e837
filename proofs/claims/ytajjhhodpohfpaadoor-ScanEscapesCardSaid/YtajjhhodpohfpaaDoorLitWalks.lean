/-
  The contracts of package lit's readers of digits: digit, shifted, number, and of what they call: bits.Mul64, bits.Add64.
-/
import Derived.Test.YtajjhhodpohfpaaDoorProg
import Derived.Test.YtajjhhodpohfpaaDoorMath
import Derived.WalkKit
import Derived.WalkSpells
import Derived.WalkLawsBesides
import Derived.Deep.QuietTactic
import Derived.BigQuiet
import Derived.Lib.Hide
import Derived.Lib.Mul64
import Derived.Laws.Externs
import Derived.Laws.Bits64b
namespace Go.Proofs.YtajjhhodpohfpaaDoor
open Go.RowKit Go.PlainAid

theorem ldigit_any (c : Int) (w : World) (h0 : 0 ≤ c) (h1 : c ≤ 2147483647) : Calls Tryd.prog 91 #[.int .i32 c] w fun e w' => e = .returned (.int .i64 (dg c)) ∧ w = w' := by
  by_cases a1 : 48 ≤ c
  · by_cases a2 : c ≤ 57
    · have e : dg c = c - 48 := by unfold dg; rw [if_pos ⟨a1, a2⟩]
      rw [e]
      go_enter Tryd.func91, Tryd.ntmps91
      go_wp2
      go_ret
      exact ⟨rfl, rfl⟩
    have g2 : decide (c ≤ 57) = false := decide_eq_false a2
    by_cases a3 : 65 ≤ c
    · by_cases a4 : c ≤ 90
      · have e : dg c = c - 65 + 10 := by unfold dg; rw [if_neg (by omega), if_pos ⟨a3, a4⟩]; omega
        rw [e]
        go_enter Tryd.func91, Tryd.ntmps91
        go_wp2
        go_ret
        exact ⟨rfl, rfl⟩
      have g4 : decide (c ≤ 90) = false := decide_eq_false a4
      by_cases a5 : 97 ≤ c
      · by_cases a6 : c ≤ 122
        · have e : dg c = c - 97 + 10 := by unfold dg; rw [if_neg (by omega), if_neg (by omega), if_pos ⟨a5, a6⟩]; omega
          rw [e]
          go_enter Tryd.func91, Tryd.ntmps91
          go_wp2
          go_ret
          exact ⟨rfl, rfl⟩
        have g6 : decide (c ≤ 122) = false := decide_eq_false a6
        have e : dg c = 36 := by unfold dg; rw [if_neg (by omega), if_neg (by omega), if_neg (by omega)]
        rw [e]
        go_enter Tryd.func91, Tryd.ntmps91
        go_wp2
        go_ret
        exact ⟨rfl, rfl⟩
      have g5 : decide (97 ≤ c) = false := decide_eq_false a5
      have e : dg c = 36 := by unfold dg; rw [if_neg (by omega), if_neg (by omega), if_neg (by omega)]
      rw [e]
      go_enter Tryd.func91, Tryd.ntmps91
      go_wp2
      go_ret
      exact ⟨rfl, rfl⟩
    have g3 : decide (65 ≤ c) = false := decide_eq_false a3
    have g5 : decide (97 ≤ c) = false := decide_eq_false (by omega)
    have e : dg c = 36 := by unfold dg; rw [if_neg (by omega), if_neg (by omega), if_neg (by omega)]
    rw [e]
    go_enter Tryd.func91, Tryd.ntmps91
    go_wp2
    go_ret
    exact ⟨rfl, rfl⟩
  have g1 : decide (48 ≤ c) = false := decide_eq_false a1
  have g3 : decide (65 ≤ c) = false := decide_eq_false (by omega)
  have g5 : decide (97 ≤ c) = false := decide_eq_false (by omega)
  have e : dg c = 36 := by unfold dg; rw [if_neg (by omega), if_neg (by omega), if_neg (by omega)]
  rw [e]
  go_enter Tryd.func91, Tryd.ntmps91
  go_wp2
  go_ret
  exact ⟨rfl, rfl⟩

/-- What a range finds at byte k: the byte itself below 128; else a rune of 128 or more. -/
theorem rune_at {s : ByteArray} {k : Nat} (h : k < s.size) : 0 ≤ ((Utf8.decode s k).1 : Int) ∧ ((Utf8.decode s k).1 : Int) ≤ 2147483647 ∧ dg ((Utf8.decode s k).1 : Int) = dg (bt s k) ∧ (bt s k < 128 → ((Utf8.decode s k).1 : Int) = bt s k ∧ (Utf8.decode s k).2 = 1) ∧ (128 ≤ bt s k → 128 ≤ ((Utf8.decode s k).1 : Int) ∧ 1 ≤ (Utf8.decode s k).2) := by
  have hle := decode_le s k
  have gb := get_bt s k h
  by_cases ha : (s[k]'h).toNat < 128
  · have e := decode_ascii s k h ha
    rw [e]
    refine ⟨by simp, by simp only; omega, ?_, fun _ => ⟨by simpa using gb, rfl⟩, fun h => by omega⟩
    rw [← gb]
  · have e := decode_high s k h (by omega)
    refine ⟨by omega, by omega, ?_, fun h => by omega, fun _ => ⟨by omega, e.2⟩⟩
    rw [dg_high (by omega), dg_high (by omega)]

theorem maskN (a : Nat) (ha : a < 18446744073709551616) : bits .and .u64 (a : Int) 4294967295 = ((a % 4294967296 : Nat) : Int) := by
  have h := bits_and_u64_nat a 4294967295 ha (by omega)
  have e : a &&& 4294967295 = a % 4294967296 := Nat.and_two_pow_sub_one_eq_mod a 32
  rw [e] at h
  exact h
theorem divN (a : Nat) : (a : Int) / 4294967296 = ((a / 4294967296 : Nat) : Int) := by omega
theorem mulN (a b : Nat) : (a : Int) * (b : Int) = ((a * b : Nat) : Int) := (Int.natCast_mul a b).symm
theorem addN (a b : Nat) : (a : Int) + (b : Int) = ((a + b : Nat) : Int) := (Int.natCast_add a b).symm
theorem wrapN (a : Nat) (ha : a < 18446744073709551616) : IntKind.u64.wrap (a : Int) = (a : Int) := by rw [IntKind.wrap_u64]; omega
theorem wrapM (a : Nat) : IntKind.u64.wrap (a : Int) = ((a % 18446744073709551616 : Nat) : Int) := by rw [IntKind.wrap_u64]; omega
theorem mul64_any (x y : Nat) (hx : x < 18446744073709551616) (hy : y < 18446744073709551616) (w : World) :
    Calls Tryd.prog 92 #[.int .u64 x, .int .u64 y] w fun e w' => e = .returned (.tuple #[.int .u64 ((x * y / 18446744073709551616 : Nat) : Int), .int .u64 ((x * y % 18446744073709551616 : Nat) : Int)]) ∧ w = w' := by
  obtain ⟨bd, bt, bw, hhi⟩ := Lib.mul64_hi x y hx hy
  have ba := Lib.half_mul_le (a := x / 4294967296) (b := y / 4294967296) (by omega) (by omega)
  have bb := Lib.half_mul_le (a := x / 4294967296) (b := y % 4294967296) (by omega) (by omega)
  have bc := Lib.half_mul_le (a := x % 4294967296) (b := y / 4294967296) (by omega) (by omega)
  have ba' : x / 4294967296 * (y / 4294967296) < 18446744073709551616 := by omega
  have bb' : x / 4294967296 * (y % 4294967296) < 18446744073709551616 := by omega
  have bc' : x % 4294967296 * (y / 4294967296) < 18446744073709551616 := by omega
  have bh1 : x / 4294967296 * (y / 4294967296) + (x / 4294967296 * (y % 4294967296) + x % 4294967296 * (y % 4294967296) / 4294967296) / 4294967296 < 18446744073709551616 := by omega
  have bh : x / 4294967296 * (y / 4294967296) + (x / 4294967296 * (y % 4294967296) + x % 4294967296 * (y % 4294967296) / 4294967296) / 4294967296 + ((x / 4294967296 * (y % 4294967296) + x % 4294967296 * (y % 4294967296) / 4294967296) % 4294967296 + x % 4294967296 * (y / 4294967296)) / 4294967296 < 18446744073709551616 := by omega
  go_enter Tryd.func92, Tryd.ntmps92
  go_wp2
  simp only [maskN x hx, maskN y hy, divN, mulN, addN, wrapN _ bd, wrapN _ bb', wrapN _ bt, maskN _ bt, wrapN _ bc', wrapN _ bw, wrapN _ ba', wrapN _ bh1, wrapN _ bh, wrapM (x * y)]
  rw [hhi]
  go_ret2
  exact ⟨rfl, rfl⟩
theorem add64_run (x y : Nat) (w : World) :
    (callFunc 93 #[.int .u64 x, .int .u64 y, .int .u64 0]).run Tryd.prog w =
      .ok (.value (.tuple #[.int .u64 (((x + y) % 18446744073709551616 : Nat) : Int), .int .u64 (((x + y) / 18446744073709551616 : Nat) : Int)])) w := by
  rw [run_callFunc_extern Tryd.func93 (by kernel_rfl) (by kernel_rfl) (by kernel_rfl) (e := add64Entry) (by kernel_rfl), run_add64 x y 0 (by omega) (by omega) (by omega) (by omega)]
  simp only [Result.andThen]
  congr 5 <;> omega

theorem ret2I {k k' : IntKind} {a b c d : Int} (h : a = b) (h' : c = d) : Ending.returned (.tuple #[.int k a, .int k' c]) = .returned (.tuple #[.int k b, .int k' d]) := by rw [h, h']
theorem decode_iter (w : World) (s : ByteArray) (k : Nat) (ty : TypeId) (h : k < s.size) (r : Int) (d : Nat) (hr : ((Utf8.decode s k).1 : Int) = r) (hd : (Utf8.decode s k).2 = d) :
    (Instr.next (.pointer (some ⟨w.heap.size, 0, none⟩)) true ty).run Tryd.prog (w.iter s k) = .ok (.tuple #[.bool true, .int .i64 k, .int .i32 r]) (w.iter s (k + d)) := by
  rw [run_next_any w s k ty h, hr, hd]
theorem i64_or3 (x y : Int) (hx0 : 0 ≤ x) (hx : x < 1099511627776) (h0 : 0 ≤ y) (h1 : y < 8) : bits .or .i64 (x * 8) y = x * 8 + y :=
  bits_join .i64 63 (by decide) wraps_i64 3 (x * 8) y (by omega) (by omega) (by omega) h0 h1 (by omega)
theorem i64_or4 (x y : Int) (hx0 : 0 ≤ x) (hx : x < 1099511627776) (h0 : 0 ≤ y) (h1 : y < 16) : bits .or .i64 (x * 16) y = x * 16 + y :=
  bits_join .i64 63 (by decide) wraps_i64 4 (x * 16) y (by omega) (by omega) (by omega) h0 h1 (by omega)

/-- SHIFTED, by digits of three bits. -/
theorem shifted_3 (s : ByteArray) (m : Nat) (hm : m ≤ 6) (hs : s.size ≤ maxLen) (w : World) :
    Calls Tryd.prog 87 #[.string s, .int .u64 3, .int .i64 m] w fun e w' => e = .returned (.tuple #[.int .i64 (rv s 8 m 0 0), .int .i64 (rc s 8 m 0)]) ∧ ∃ p, w' = w.iter s p := by
  unfold maxLen at hs
  obtain ⟨V, hV⟩ : ∃ V, V = rv s 8 m 0 0 := ⟨_, rfl⟩
  obtain ⟨N, hN⟩ : ∃ N, N = rc s 8 m 0 := ⟨_, rfl⟩
  rw [← hV, ← hN]
  have HV := Lib.hid hV
  have HN := Lib.hid hN
  clear hV hN
  go_enter Tryd.func87, Tryd.ntmps87
  go_wp2_with fail
  go_loopw [8, 9] (fun v n wr => ∃ (k : Nat) (x : Int), k ≤ m ∧ k ≤ s.size ∧ v = .int .i64 x ∧ n = .int .i64 k ∧ 0 ≤ x ∧ x < 8 ^ k ∧ wr = w.iter s k ∧ Hid (V = rv s 8 (m - k) k x) ∧ Hid (N = k + rc s 8 (m - k) k)) (fun _ _ wr => s.size - wr.iterPos w.heap.size)
  case atStart => exact ⟨0, 0, Nat.zero_le _, Nat.zero_le _, rfl, rfl, Int.le_refl _, by simp, rfl, HV, by rw [Nat.zero_add]; exact HN⟩
  case round =>
    obtain ⟨k, x, hk, hks, rfl, rfl, hx0, hx1, rfl, HK, HL⟩ := hrel
    by_cases hlt : k < s.size
    · obtain ⟨r0, r1, r2, r3, r4⟩ := rune_at hlt
      obtain ⟨r, hr⟩ : ∃ r : Int, ((Utf8.decode s k).1 : Int) = r := ⟨_, rfl⟩
      obtain ⟨d, hd⟩ : ∃ d, (Utf8.decode s k).2 = d := ⟨_, rfl⟩
      have hnx := fun ty => decode_iter w s k ty hlt r d hr hd
      rw [hr] at r0 r1 r2 r3 r4
      rw [hd] at r3 r4
      have HD := Lib.hid (fun W => ldigit_any r W r0 r1)
      rw [r2] at HD
      have y1 := dg_bd (bt s k)
      obtain ⟨y, hy⟩ : ∃ y, y = dg (bt s k) := ⟨_, rfl⟩
      have HY := Lib.hid hy
      rw [← hy] at HD y1
      have R3 := Lib.hid r3
      have HT : Hid (y < 8 → r < 128) := fun h => by
        apply Classical.byContradiction
        intro h'
        have := dg_high (c := r) (by omega)
        rw [r2, ← hy] at this
        omega
      obtain ⟨y0, y2⟩ := y1
      clear hy r2 r3 r4 hr hd
      by_cases hkm : k = m
      · subst hkm
        have HF := Lib.hid (HK.out.trans (by rw [Nat.sub_self]; rfl : rv s 8 (k - k) k x = x))
        have HG := Lib.hid (HL.out.trans (by rw [Nat.sub_self]; rfl : k + rc s 8 (k - k) k = k))
        have g1 : ((k : Int) == (k : Int)) = true := by simp
        go_wp2_with fail
        refine (HD.out _).mono ?_
        rintro e w' ⟨rfl, rfl⟩
        go_wp2
        go_ret2
        exact ⟨ret2I HF.out.symm (by rw [HG.out]), _, rfl⟩
      have g1 : ((k : Int) == (m : Int)) = false := beq_false_of_ne (by omega)
      obtain ⟨j, hj⟩ : ∃ j, m - k = j + 1 := ⟨m - k - 1, by omega⟩
      have hx2 : x < 32768 := by
        have : (8 : Int) ^ k ≤ 32768 := by
          obtain h | h | h | h | h | h : k = 0 ∨ k = 1 ∨ k = 2 ∨ k = 3 ∨ k = 4 ∨ k = 5 := by omega
          all_goals (rw [h]; decide)
        omega
      by_cases hy8 : y < 8
      · have hy9 := HY.out
        have HF := Lib.hid (HK.out.trans (by rw [hj, rv, ← hy9, if_pos hy8, show m - (k + 1) = j by omega] : rv s 8 (m - k) k x = rv s 8 (m - (k + 1)) (k + 1) (x * 8 + y)))
        have HG := Lib.hid (HL.out.trans (by rw [hj, rc, ← hy9, if_pos hy8, show m - (k + 1) = j by omega]; omega : k + rc s 8 (m - k) k = k + 1 + rc s 8 (m - (k + 1)) (k + 1)))
        have h1 : x * 8 + y < 8 ^ (k + 1) := by rw [Int.pow_succ]; omega
        have H1 := Lib.hid h1
        have e1 : y / 8 = 0 := by omega
        have e2 := i64_or3 x y hx0 (by omega) y0 hy8
        have h128 : bt s k < 128 := by
          apply Classical.byContradiction
          intro h'
          have := dg_high (c := bt s k) (by omega)
          omega
        obtain ⟨-, rfl⟩ := R3.out h128
        clear hx1 hj hy9 h1 h128
        go_wp2_with fail
        refine (HD.out _).mono ?_
        rintro e w' ⟨rfl, rfl⟩
        go_wp2
        go_roundw
        case rel => exact ⟨k + 1, x * 8 + y, by omega, by omega, by go_num, by go_num, by omega, H1.out, rfl, HF, HG⟩
        case measure => simp; omega
      · have hy9 := HY.out
        have HF := Lib.hid (HK.out.trans (by rw [hj, rv, ← hy9, if_neg hy8] : rv s 8 (m - k) k x = x))
        have HG := Lib.hid (HL.out.trans (by rw [hj, rc, ← hy9, if_neg hy8]; rfl : k + rc s 8 (m - k) k = k))
        have e1 : (y / 8 != 0) = true := by simp; omega
        clear hx1 hj hy9
        go_wp2_with fail
        refine (HD.out _).mono ?_
        rintro e w' ⟨rfl, rfl⟩
        go_wp2
        go_ret2
        exact ⟨ret2I HF.out.symm (by rw [HG.out]), _, rfl⟩
    · obtain rfl : k = s.size := by omega
      have hnx := fun ty => run_next_end (P := Tryd.prog) w s s.size ty (by omega)
      have HF : Hid (V = x ∧ N = s.size) := by
        have h1 := HK.out
        have h2 := HL.out
        by_cases hm : m - s.size = 0
        · rw [hm] at h1 h2
          exact ⟨h1, by simpa [rc] using h2⟩
        · obtain ⟨j, hj⟩ : ∃ j, m - s.size = j + 1 := ⟨m - s.size - 1, by omega⟩
          have hd := dg_end (s := s) (k := s.size) (Nat.le_refl _)
          rw [hj, rv, hd, if_neg (by omega)] at h1
          rw [hj, rc, hd, if_neg (by omega)] at h2
          exact ⟨h1, h2⟩
      go_wp2
      go_ret2
      exact ⟨ret2I HF.out.1.symm (by rw [HF.out.2]), _, rfl⟩
/-- SHIFTED, by digits of four bits. -/
theorem shifted_4 (s : ByteArray) (m : Nat) (hm : m ≤ 6) (hs : s.size ≤ maxLen) (w : World) :
    Calls Tryd.prog 87 #[.string s, .int .u64 4, .int .i64 m] w fun e w' => e = .returned (.tuple #[.int .i64 (rv s 16 m 0 0), .int .i64 (rc s 16 m 0)]) ∧ ∃ p, w' = w.iter s p := by
  unfold maxLen at hs
  obtain ⟨V, hV⟩ : ∃ V, V = rv s 16 m 0 0 := ⟨_, rfl⟩
  obtain ⟨N, hN⟩ : ∃ N, N = rc s 16 m 0 := ⟨_, rfl⟩
  rw [← hV, ← hN]
  have HV := Lib.hid hV
  have HN := Lib.hid hN
  clear hV hN
  go_enter Tryd.func87, Tryd.ntmps87
  go_wp2_with fail
  go_loopw [8, 9] (fun v n wr => ∃ (k : Nat) (x : Int), k ≤ m ∧ k ≤ s.size ∧ v = .int .i64 x ∧ n = .int .i64 k ∧ 0 ≤ x ∧ x < 16 ^ k ∧ wr = w.iter s k ∧ Hid (V = rv s 16 (m - k) k x) ∧ Hid (N = k + rc s 16 (m - k) k)) (fun _ _ wr => s.size - wr.iterPos w.heap.size)
  case atStart => exact ⟨0, 0, Nat.zero_le _, Nat.zero_le _, rfl, rfl, Int.le_refl _, by simp, rfl, HV, by rw [Nat.zero_add]; exact HN⟩
  case round =>
    obtain ⟨k, x, hk, hks, rfl, rfl, hx0, hx1, rfl, HK, HL⟩ := hrel
    by_cases hlt : k < s.size
    · obtain ⟨r0, r1, r2, r3, r4⟩ := rune_at hlt
      obtain ⟨r, hr⟩ : ∃ r : Int, ((Utf8.decode s k).1 : Int) = r := ⟨_, rfl⟩
      obtain ⟨d, hd⟩ : ∃ d, (Utf8.decode s k).2 = d := ⟨_, rfl⟩
      have hnx := fun ty => decode_iter w s k ty hlt r d hr hd
      rw [hr] at r0 r1 r2 r3 r4
      rw [hd] at r3 r4
      have HD := Lib.hid (fun W => ldigit_any r W r0 r1)
      rw [r2] at HD
      have y1 := dg_bd (bt s k)
      obtain ⟨y, hy⟩ : ∃ y, y = dg (bt s k) := ⟨_, rfl⟩
      have HY := Lib.hid hy
      rw [← hy] at HD y1
      have R3 := Lib.hid r3
      have HT : Hid (y < 16 → r < 128) := fun h => by
        apply Classical.byContradiction
        intro h'
        have := dg_high (c := r) (by omega)
        rw [r2, ← hy] at this
        omega
      obtain ⟨y0, y2⟩ := y1
      clear hy r2 r3 r4 hr hd
      by_cases hkm : k = m
      · subst hkm
        have HF := Lib.hid (HK.out.trans (by rw [Nat.sub_self]; rfl : rv s 16 (k - k) k x = x))
        have HG := Lib.hid (HL.out.trans (by rw [Nat.sub_self]; rfl : k + rc s 16 (k - k) k = k))
        have g1 : ((k : Int) == (k : Int)) = true := by simp
        go_wp2_with fail
        refine (HD.out _).mono ?_
        rintro e w' ⟨rfl, rfl⟩
        go_wp2
        go_ret2
        exact ⟨ret2I HF.out.symm (by rw [HG.out]), _, rfl⟩
      have g1 : ((k : Int) == (m : Int)) = false := beq_false_of_ne (by omega)
      obtain ⟨j, hj⟩ : ∃ j, m - k = j + 1 := ⟨m - k - 1, by omega⟩
      have hx2 : x < 1048576 := by
        have : (16 : Int) ^ k ≤ 1048576 := by
          obtain h | h | h | h | h | h : k = 0 ∨ k = 1 ∨ k = 2 ∨ k = 3 ∨ k = 4 ∨ k = 5 := by omega
          all_goals (rw [h]; decide)
        omega
      by_cases hy8 : y < 16
      · have hy9 := HY.out
        have HF := Lib.hid (HK.out.trans (by rw [hj, rv, ← hy9, if_pos hy8, show m - (k + 1) = j by omega] : rv s 16 (m - k) k x = rv s 16 (m - (k + 1)) (k + 1) (x * 16 + y)))
        have HG := Lib.hid (HL.out.trans (by rw [hj, rc, ← hy9, if_pos hy8, show m - (k + 1) = j by omega]; omega : k + rc s 16 (m - k) k = k + 1 + rc s 16 (m - (k + 1)) (k + 1)))
        have h1 : x * 16 + y < 16 ^ (k + 1) := by rw [Int.pow_succ]; omega
        have H1 := Lib.hid h1
        have e1 : y / 16 = 0 := by omega
        have e2 := i64_or4 x y hx0 (by omega) y0 hy8
        have h128 : bt s k < 128 := by
          apply Classical.byContradiction
          intro h'
          have := dg_high (c := bt s k) (by omega)
          omega
        obtain ⟨-, rfl⟩ := R3.out h128
        clear hx1 hj hy9 h1 h128
        go_wp2_with fail
        refine (HD.out _).mono ?_
        rintro e w' ⟨rfl, rfl⟩
        go_wp2
        go_roundw
        case rel => exact ⟨k + 1, x * 16 + y, by omega, by omega, by go_num, by go_num, by omega, H1.out, rfl, HF, HG⟩
        case measure => simp; omega
      · have hy9 := HY.out
        have HF := Lib.hid (HK.out.trans (by rw [hj, rv, ← hy9, if_neg hy8] : rv s 16 (m - k) k x = x))
        have HG := Lib.hid (HL.out.trans (by rw [hj, rc, ← hy9, if_neg hy8]; rfl : k + rc s 16 (m - k) k = k))
        have e1 : (y / 16 != 0) = true := by simp; omega
        clear hx1 hj hy9
        go_wp2_with fail
        refine (HD.out _).mono ?_
        rintro e w' ⟨rfl, rfl⟩
        go_wp2
        go_ret2
        exact ⟨ret2I HF.out.symm (by rw [HG.out]), _, rfl⟩
    · obtain rfl : k = s.size := by omega
      have hnx := fun ty => run_next_end (P := Tryd.prog) w s s.size ty (by omega)
      have HF : Hid (V = x ∧ N = s.size) := by
        have h1 := HK.out
        have h2 := HL.out
        by_cases hm : m - s.size = 0
        · rw [hm] at h1 h2
          exact ⟨h1, by simpa [rc] using h2⟩
        · obtain ⟨j, hj⟩ : ∃ j, m - s.size = j + 1 := ⟨m - s.size - 1, by omega⟩
          have hd := dg_end (s := s) (k := s.size) (Nat.le_refl _)
          rw [hj, rv, hd, if_neg (by omega)] at h1
          rw [hj, rc, hd, if_neg (by omega)] at h2
          exact ⟨h1, h2⟩
      go_wp2
      go_ret2
      exact ⟨ret2I HF.out.1.symm (by rw [HF.out.2]), _, rfl⟩

end Go.Proofs.YtajjhhodpohfpaaDoor
