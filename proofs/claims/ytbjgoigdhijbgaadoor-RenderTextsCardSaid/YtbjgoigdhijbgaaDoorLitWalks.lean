/-
  The contracts of package lit's readers of digits: digit, shifted, number, and of what they call: bits.Mul64, bits.Add64.
-/
import Derived.Test.YtbjgoigdhijbgaaDoorProg
import Derived.Test.YtbjgoigdhijbgaaDoorMath
import Derived.WalkKit
import Derived.WalkSpells
import Derived.WalkLawsBesides
import Derived.Deep.QuietTactic
import Derived.BigQuiet
import Derived.Lib.Hide
import Derived.Lib.Mul64
import Derived.Laws.Externs
import Derived.Laws.Bits64b
set_option linter.all false
namespace Go.Proofs.YtbjgoigdhijbgaaDoor
open Go.RowKit Go.PlainAid

/-- What a range finds at byte k: the byte itself below 128; else a rune of 128 or more. -/
theorem rune_at {s : ByteArray} {k : Nat} (h : k < s.size) : 0 ≤ ((Utf8.decode s k).1 : Int) ∧ ((Utf8.decode s k).1 : Int) ≤ 2147483647 ∧ dg ((Utf8.decode s k).1 : Int) = dg (bt s k) ∧ (bt s k < 128 → ((Utf8.decode s k).1 : Int) = bt s k ∧ (Utf8.decode s k).2 = 1) ∧ (128 ≤ bt s k → 128 ≤ ((Utf8.decode s k).1 : Int) ∧ 1 ≤ (Utf8.decode s k).2) := by
  have hle := decode_le s k
  have gb := get_bt s k h
  by_cases ha : (s[k]'h).toNat < 128
  · have e := decode_ascii s k h ha
    rw [e]
    refine ⟨by simp, by simp only; omega, ?_, fun _ => ⟨by simpa using gb, rfl⟩, fun h => by omega⟩
    rw [← gb]
  · have e := decode_high s k h (by omega)
    refine ⟨by omega, by omega, ?_, fun h => by omega, fun _ => ⟨by omega, e.2⟩⟩
    rw [dg_high (by omega), dg_high (by omega)]

theorem maskN (a : Nat) (ha : a < 18446744073709551616) : bits .and .u64 (a : Int) 4294967295 = ((a % 4294967296 : Nat) : Int) := by
  have h := bits_and_u64_nat a 4294967295 ha (by omega)
  have e : a &&& 4294967295 = a % 4294967296 := Nat.and_two_pow_sub_one_eq_mod a 32
  rw [e] at h
  exact h
theorem divN (a : Nat) : (a : Int) / 4294967296 = ((a / 4294967296 : Nat) : Int) := by omega
theorem mulN (a b : Nat) : (a : Int) * (b : Int) = ((a * b : Nat) : Int) := (Int.natCast_mul a b).symm
theorem addN (a b : Nat) : (a : Int) + (b : Int) = ((a + b : Nat) : Int) := (Int.natCast_add a b).symm
theorem wrapN (a : Nat) (ha : a < 18446744073709551616) : IntKind.u64.wrap (a : Int) = (a : Int) := by rw [IntKind.wrap_u64]; omega
theorem wrapM (a : Nat) : IntKind.u64.wrap (a : Int) = ((a % 18446744073709551616 : Nat) : Int) := by rw [IntKind.wrap_u64]; omega
theorem mul64_any (x y : Nat) (hx : x < 18446744073709551616) (hy : y < 18446744073709551616) (w : World) :
    Calls Tryd.prog 68 #[.int .u64 x, .int .u64 y] w fun e w' => e = .returned (.tuple #[.int .u64 ((x * y / 18446744073709551616 : Nat) : Int), .int .u64 ((x * y % 18446744073709551616 : Nat) : Int)]) ∧ w = w' := by
  obtain ⟨bd, bt, bw, hhi⟩ := Lib.mul64_hi x y hx hy
  have ba := Lib.half_mul_le (a := x / 4294967296) (b := y / 4294967296) (by omega) (by omega)
  have bb := Lib.half_mul_le (a := x / 4294967296) (b := y % 4294967296) (by omega) (by omega)
  have bc := Lib.half_mul_le (a := x % 4294967296) (b := y / 4294967296) (by omega) (by omega)
  have ba' : x / 4294967296 * (y / 4294967296) < 18446744073709551616 := by omega
  have bb' : x / 4294967296 * (y % 4294967296) < 18446744073709551616 := by omega
  have bc' : x % 4294967296 * (y / 4294967296) < 18446744073709551616 := by omega
  have bh1 : x / 4294967296 * (y / 4294967296) + (x / 4294967296 * (y % 4294967296) + x % 4294967296 * (y % 4294967296) / 4294967296) / 4294967296 < 18446744073709551616 := by omega
  have bh : x / 4294967296 * (y / 4294967296) + (x / 4294967296 * (y % 4294967296) + x % 4294967296 * (y % 4294967296) / 4294967296) / 4294967296 + ((x / 4294967296 * (y % 4294967296) + x % 4294967296 * (y % 4294967296) / 4294967296) % 4294967296 + x % 4294967296 * (y / 4294967296)) / 4294967296 < 18446744073709551616 := by omega
  go_enter Tryd.func68, Tryd.ntmps68
  go_wp2
  simp only [maskN x hx, maskN y hy, divN, mulN, addN, wrapN _ bd, wrapN _ bb', wrapN _ bt, maskN _ bt, wrapN _ bc', wrapN _ bw, wrapN _ ba', wrapN _ bh1, wrapN _ bh, wrapM (x * y)]
  rw [hhi]
  go_ret2
  exact ⟨rfl, rfl⟩
theorem ret2I {k k' : IntKind} {a b c d : Int} (h : a = b) (h' : c = d) : Ending.returned (.tuple #[.int k a, .int k' c]) = .returned (.tuple #[.int k b, .int k' d]) := by rw [h, h']
theorem decode_iter (w : World) (s : ByteArray) (k : Nat) (ty : TypeId) (h : k < s.size) (r : Int) (d : Nat) (hr : ((Utf8.decode s k).1 : Int) = r) (hd : (Utf8.decode s k).2 = d) :
    (Instr.next (.pointer (some ⟨w.heap.size, 0, none⟩)) true ty).run Tryd.prog (w.iter s k) = .ok (.tuple #[.bool true, .int .i64 k, .int .i32 r]) (w.iter s (k + d)) := by
  rw [run_next_any w s k ty h, hr, hd]
theorem i64_or3 (x y : Int) (hx0 : 0 ≤ x) (hx : x < 1099511627776) (h0 : 0 ≤ y) (h1 : y < 8) : bits .or .i64 (x * 8) y = x * 8 + y :=
  bits_join .i64 63 (by decide) wraps_i64 3 (x * 8) y (by omega) (by omega) (by omega) h0 h1 (by omega)
theorem i64_or4 (x y : Int) (hx0 : 0 ≤ x) (hx : x < 1099511627776) (h0 : 0 ≤ y) (h1 : y < 16) : bits .or .i64 (x * 16) y = x * 16 + y :=
  bits_join .i64 63 (by decide) wraps_i64 4 (x * 16) y (by omega) (by omega) (by omega) h0 h1 (by omega)

end Go.Proofs.YtbjgoigdhijbgaaDoor
