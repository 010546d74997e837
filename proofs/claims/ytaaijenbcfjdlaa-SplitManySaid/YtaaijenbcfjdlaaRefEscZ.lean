/-
  The document's own Escape: hexadecimal digits and controls.
-/
import Derived.Test.YtaaijenbcfjdlaaRefEscX
/- The walks through the document's own Escape: two digits. -/
namespace Go.Proofs.Ytaaijenbcfjdlaa
open Go.RowKit Go.PlainAid

set_option maxRecDepth 100000 in
set_option maxHeartbeats 4000000 in
theorem resc_xx_0 (s : ByteArray) (a : Nat) (hs : s.size ≤ 1048576) (hlt : a + 1 < s.size) (h92 : bt s a = 92) (hnm : Hid (∀ k, k < 9 → bt nmS k ≠ bt s (a + 1))) (hx : bt s (a + 1) = 120) (v : Int) (n : Nat) (hn : n ≤ 2) (HR : Hid (RunM s ((a : Int) + 2) 16 2 v n)) (hb : s.size ≤ a + 2) (h2 : n < 2) : EscR s a (-1) 0 := by
  intro w
  have g0 : ¬ (s.size : Int) - 1 ≤ (a : Int) := by omega
  have gx := get_bt s a (by omega)
  rw [h92] at gx
  clear h92
  have gc := get_bt s (a + 1) hlt
  have c0 := bt_nonneg s (a + 1)
  have c1 := bt_le s (a + 1)
  rw [hx] at gc hnm
  clear hx c0 c1
  go_enter Try.func42, Try.ntmps42
  go_wp2_with fail
  go_loopg [9] 9 (fun gn i wr => ∃ k : Nat, gn = 9 - k ∧ k ≤ 9 ∧ i = .int .i64 k ∧ Hid (Below w.heap.size w wr))
  case atStart => exact ⟨0, rfl, Nat.zero_le _, rfl, Lib.hid ((Below.refl _ _).alloc (Nat.le_refl _) _)⟩
  case round =>
    obtain ⟨k, hgn, hk, rfl, HW⟩ := hrel
    by_cases hk9 : k < 9
    · have gk := get_bt ({ data := #[98, 100, 101, 102, 110, 114, 115, 116, 118] } : ByteArray) k hk9
      have g1 := beq_false_of_ne (hnm.out k hk9)
      rw [show bt ({ data := #[98, 100, 101, 102, 110, 114, 115, 116, 118] } : ByteArray) k = bt nmS k from rfl] at gk
      obtain ⟨x, hx⟩ : ∃ x, x = bt nmS k := ⟨_, rfl⟩
      rw [← hx] at gk g1
      clear hx
      go_wp2_with fail
      go_roundg (9 - (k + 1))
      case measure => omega
      case rel => exact ⟨k + 1, rfl, hk9, by go_num, HW⟩
    · go_wp2_with fail
      refine (HR.out _).mono ?_
      rintro e w' ⟨rfl, q, rfl⟩
      go_wp2_with fail
      go_ret2
      exact ⟨rfl, HW.out.trans ((Below.ofDrewN _ _).mono HW.out.size)⟩
set_option maxRecDepth 100000 in
set_option maxHeartbeats 4000000 in
theorem resc_xy_0 (s : ByteArray) (a : Nat) (hs : s.size ≤ 1048576) (hlt : a + 1 < s.size) (h92 : bt s a = 92) (hnm : Hid (∀ k, k < 9 → bt nmS k ≠ bt s (a + 1))) (hx : bt s (a + 1) = 120) (v : Int) (n : Nat) (hn : n ≤ 2) (HR : Hid (RunM s ((a : Int) + 2) 16 2 v n)) (hlt2 : a + 2 < s.size) (hb : bt s (a + 2) ≠ 123) (h2 : n < 2) : EscR s a (-1) 0 := by
  intro w
  have g0 : ¬ (s.size : Int) - 1 ≤ (a : Int) := by omega
  have gx := get_bt s a (by omega)
  rw [h92] at gx
  clear h92
  have gc := get_bt s (a + 1) hlt
  have c0 := bt_nonneg s (a + 1)
  have c1 := bt_le s (a + 1)
  rw [hx] at gc hnm
  clear hx c0 c1
  have gd := get_bt s (a + 2) hlt2
  have gb := beq_false_of_ne hb
  obtain ⟨d, hd⟩ : ∃ d, d = bt s (a + 2) := ⟨_, rfl⟩
  rw [← hd] at gd gb
  clear hd hb
  go_enter Try.func42, Try.ntmps42
  go_wp2_with fail
  go_loopg [9] 9 (fun gn i wr => ∃ k : Nat, gn = 9 - k ∧ k ≤ 9 ∧ i = .int .i64 k ∧ Hid (Below w.heap.size w wr))
  case atStart => exact ⟨0, rfl, Nat.zero_le _, rfl, Lib.hid ((Below.refl _ _).alloc (Nat.le_refl _) _)⟩
  case round =>
    obtain ⟨k, hgn, hk, rfl, HW⟩ := hrel
    by_cases hk9 : k < 9
    · have gk := get_bt ({ data := #[98, 100, 101, 102, 110, 114, 115, 116, 118] } : ByteArray) k hk9
      have g1 := beq_false_of_ne (hnm.out k hk9)
      rw [show bt ({ data := #[98, 100, 101, 102, 110, 114, 115, 116, 118] } : ByteArray) k = bt nmS k from rfl] at gk
      obtain ⟨x, hx⟩ : ∃ x, x = bt nmS k := ⟨_, rfl⟩
      rw [← hx] at gk g1
      clear hx
      go_wp2_with fail
      go_roundg (9 - (k + 1))
      case measure => omega
      case rel => exact ⟨k + 1, rfl, hk9, by go_num, HW⟩
    · go_wp2_with fail
      refine (HR.out _).mono ?_
      rintro e w' ⟨rfl, q, rfl⟩
      go_wp2_with fail
      go_ret2
      exact ⟨rfl, HW.out.trans ((Below.ofDrewN _ _).mono HW.out.size)⟩
set_option maxRecDepth 100000 in
set_option maxHeartbeats 4000000 in
theorem resc_xx_1 (s : ByteArray) (a : Nat) (hs : s.size ≤ 1048576) (hlt : a + 1 < s.size) (h92 : bt s a = 92) (hnm : Hid (∀ k, k < 9 → bt nmS k ≠ bt s (a + 1))) (hx : bt s (a + 1) = 120) (v : Int) (n : Nat) (hn : n ≤ 2) (HR : Hid (RunM s ((a : Int) + 2) 16 2 v n)) (hb : s.size ≤ a + 2) (h2 : 2 ≤ n) : EscR s a v 4 := by
  intro w
  have g0 : ¬ (s.size : Int) - 1 ≤ (a : Int) := by omega
  have gx := get_bt s a (by omega)
  rw [h92] at gx
  clear h92
  have gc := get_bt s (a + 1) hlt
  have c0 := bt_nonneg s (a + 1)
  have c1 := bt_le s (a + 1)
  rw [hx] at gc hnm
  clear hx c0 c1
  go_enter Try.func42, Try.ntmps42
  go_wp2_with fail
  go_loopg [9] 9 (fun gn i wr => ∃ k : Nat, gn = 9 - k ∧ k ≤ 9 ∧ i = .int .i64 k ∧ Hid (Below w.heap.size w wr))
  case atStart => exact ⟨0, rfl, Nat.zero_le _, rfl, Lib.hid ((Below.refl _ _).alloc (Nat.le_refl _) _)⟩
  case round =>
    obtain ⟨k, hgn, hk, rfl, HW⟩ := hrel
    by_cases hk9 : k < 9
    · have gk := get_bt ({ data := #[98, 100, 101, 102, 110, 114, 115, 116, 118] } : ByteArray) k hk9
      have g1 := beq_false_of_ne (hnm.out k hk9)
      rw [show bt ({ data := #[98, 100, 101, 102, 110, 114, 115, 116, 118] } : ByteArray) k = bt nmS k from rfl] at gk
      obtain ⟨x, hx⟩ : ∃ x, x = bt nmS k := ⟨_, rfl⟩
      rw [← hx] at gk g1
      clear hx
      go_wp2_with fail
      go_roundg (9 - (k + 1))
      case measure => omega
      case rel => exact ⟨k + 1, rfl, hk9, by go_num, HW⟩
    · go_wp2_with fail
      refine (HR.out _).mono ?_
      rintro e w' ⟨rfl, q, rfl⟩
      go_wp2_with fail
      go_ret2
      exact ⟨rfl, HW.out.trans ((Below.ofDrewN _ _).mono HW.out.size)⟩
set_option maxRecDepth 100000 in
set_option maxHeartbeats 4000000 in
theorem resc_xy_1 (s : ByteArray) (a : Nat) (hs : s.size ≤ 1048576) (hlt : a + 1 < s.size) (h92 : bt s a = 92) (hnm : Hid (∀ k, k < 9 → bt nmS k ≠ bt s (a + 1))) (hx : bt s (a + 1) = 120) (v : Int) (n : Nat) (hn : n ≤ 2) (HR : Hid (RunM s ((a : Int) + 2) 16 2 v n)) (hlt2 : a + 2 < s.size) (hb : bt s (a + 2) ≠ 123) (h2 : 2 ≤ n) : EscR s a v 4 := by
  intro w
  have g0 : ¬ (s.size : Int) - 1 ≤ (a : Int) := by omega
  have gx := get_bt s a (by omega)
  rw [h92] at gx
  clear h92
  have gc := get_bt s (a + 1) hlt
  have c0 := bt_nonneg s (a + 1)
  have c1 := bt_le s (a + 1)
  rw [hx] at gc hnm
  clear hx c0 c1
  have gd := get_bt s (a + 2) hlt2
  have gb := beq_false_of_ne hb
  obtain ⟨d, hd⟩ : ∃ d, d = bt s (a + 2) := ⟨_, rfl⟩
  rw [← hd] at gd gb
  clear hd hb
  go_enter Try.func42, Try.ntmps42
  go_wp2_with fail
  go_loopg [9] 9 (fun gn i wr => ∃ k : Nat, gn = 9 - k ∧ k ≤ 9 ∧ i = .int .i64 k ∧ Hid (Below w.heap.size w wr))
  case atStart => exact ⟨0, rfl, Nat.zero_le _, rfl, Lib.hid ((Below.refl _ _).alloc (Nat.le_refl _) _)⟩
  case round =>
    obtain ⟨k, hgn, hk, rfl, HW⟩ := hrel
    by_cases hk9 : k < 9
    · have gk := get_bt ({ data := #[98, 100, 101, 102, 110, 114, 115, 116, 118] } : ByteArray) k hk9
      have g1 := beq_false_of_ne (hnm.out k hk9)
      rw [show bt ({ data := #[98, 100, 101, 102, 110, 114, 115, 116, 118] } : ByteArray) k = bt nmS k from rfl] at gk
      obtain ⟨x, hx⟩ : ∃ x, x = bt nmS k := ⟨_, rfl⟩
      rw [← hx] at gk g1
      clear hx
      go_wp2_with fail
      go_roundg (9 - (k + 1))
      case measure => omega
      case rel => exact ⟨k + 1, rfl, hk9, by go_num, HW⟩
    · go_wp2_with fail
      refine (HR.out _).mono ?_
      rintro e w' ⟨rfl, q, rfl⟩
      go_wp2_with fail
      go_ret2
      exact ⟨rfl, HW.out.trans ((Below.ofDrewN _ _).mono HW.out.size)⟩
end Go.Proofs.Ytaaijenbcfjdlaa
/- The walks through the document's own Escape: all else. -/
namespace Go.Proofs.Ytaaijenbcfjdlaa
open Go.RowKit Go.PlainAid

set_option maxRecDepth 100000 in
set_option maxHeartbeats 4000000 in
theorem resc_el_0 (s : ByteArray) (a : Nat) (hs : s.size ≤ 1048576) (hlt : a + 1 < s.size) (h92 : bt s a = 92) (hnm : Hid (∀ k, k < 9 → bt nmS k ≠ bt s (a + 1))) (h8 : ¬ (48 ≤ bt s (a + 1) ∧ bt s (a + 1) ≤ 55)) (hx : bt s (a + 1) ≠ 120) (hu : bt s (a + 1) ≠ 94) (v : Int) (n : Nat) (_hn : n ≤ 4) (HR : Hid (RNext s ((a : Int) + 1) v n)) (h2 : v < 32) : EscR s a (-1) 0 := by
  intro w
  have g0 : ¬ (s.size : Int) - 1 ≤ (a : Int) := by omega
  have gx := get_bt s a (by omega)
  rw [h92] at gx
  clear h92
  have gc := get_bt s (a + 1) hlt
  have c0 := bt_nonneg s (a + 1)
  have c1 := bt_le s (a + 1)
  have gx2 := beq_false_of_ne hx
  have gu := beq_false_of_ne hu
  obtain ⟨c, hc⟩ : ∃ c, c = bt s (a + 1) := ⟨_, rfl⟩
  rw [← hc] at gc c0 c1 hnm h8 gx2 gu
  clear hc hx hu
  by_cases h48 : 48 ≤ c
  · have h55 : ¬ c ≤ 55 := by omega
    clear h8
    go_enter Try.func42, Try.ntmps42
    go_wp2_with fail
    go_loopg [9] 9 (fun gn i wr => ∃ k : Nat, gn = 9 - k ∧ k ≤ 9 ∧ i = .int .i64 k ∧ Hid (Below w.heap.size w wr))
    case atStart => exact ⟨0, rfl, Nat.zero_le _, rfl, Lib.hid ((Below.refl _ _).alloc (Nat.le_refl _) _)⟩
    case round =>
      obtain ⟨k, hgn, hk, rfl, HW⟩ := hrel
      by_cases hk9 : k < 9
      · have gk := get_bt ({ data := #[98, 100, 101, 102, 110, 114, 115, 116, 118] } : ByteArray) k hk9
        have g1 := beq_false_of_ne (hnm.out k hk9)
        rw [show bt ({ data := #[98, 100, 101, 102, 110, 114, 115, 116, 118] } : ByteArray) k = bt nmS k from rfl] at gk
        obtain ⟨x, hx⟩ : ∃ x, x = bt nmS k := ⟨_, rfl⟩
        rw [← hx] at gk g1
        clear hx
        go_wp2_with fail
        go_roundg (9 - (k + 1))
        case measure => omega
        case rel => exact ⟨k + 1, rfl, hk9, by go_num, HW⟩
      · go_wp2_with fail
        refine (HR.out _).mono ?_
        rintro e w' ⟨rfl, q, rfl⟩
        go_wp2_with fail
        go_ret2
        exact ⟨rfl, HW.out.trans ((Below.ofDrewN _ _).mono HW.out.size)⟩
  · clear h8
    go_enter Try.func42, Try.ntmps42
    go_wp2_with fail
    go_loopg [9] 9 (fun gn i wr => ∃ k : Nat, gn = 9 - k ∧ k ≤ 9 ∧ i = .int .i64 k ∧ Hid (Below w.heap.size w wr))
    case atStart => exact ⟨0, rfl, Nat.zero_le _, rfl, Lib.hid ((Below.refl _ _).alloc (Nat.le_refl _) _)⟩
    case round =>
      obtain ⟨k, hgn, hk, rfl, HW⟩ := hrel
      by_cases hk9 : k < 9
      · have gk := get_bt ({ data := #[98, 100, 101, 102, 110, 114, 115, 116, 118] } : ByteArray) k hk9
        have g1 := beq_false_of_ne (hnm.out k hk9)
        rw [show bt ({ data := #[98, 100, 101, 102, 110, 114, 115, 116, 118] } : ByteArray) k = bt nmS k from rfl] at gk
        obtain ⟨x, hx⟩ : ∃ x, x = bt nmS k := ⟨_, rfl⟩
        rw [← hx] at gk g1
        clear hx
        go_wp2_with fail
        go_roundg (9 - (k + 1))
        case measure => omega
        case rel => exact ⟨k + 1, rfl, hk9, by go_num, HW⟩
      · go_wp2_with fail
        refine (HR.out _).mono ?_
        rintro e w' ⟨rfl, q, rfl⟩
        go_wp2_with fail
        go_ret2
        exact ⟨rfl, HW.out.trans ((Below.ofDrewN _ _).mono HW.out.size)⟩
set_option maxRecDepth 100000 in
set_option maxHeartbeats 4000000 in
theorem resc_el_1 (s : ByteArray) (a : Nat) (hs : s.size ≤ 1048576) (hlt : a + 1 < s.size) (h92 : bt s a = 92) (hnm : Hid (∀ k, k < 9 → bt nmS k ≠ bt s (a + 1))) (h8 : ¬ (48 ≤ bt s (a + 1) ∧ bt s (a + 1) ≤ 55)) (hx : bt s (a + 1) ≠ 120) (hu : bt s (a + 1) ≠ 94) (v : Int) (n : Nat) (hn : n ≤ 4) (HR : Hid (RNext s ((a : Int) + 1) v n)) (h2 : 32 ≤ v) : EscR s a v (1 + n) := by
  intro w
  have g0 : ¬ (s.size : Int) - 1 ≤ (a : Int) := by omega
  have gx := get_bt s a (by omega)
  rw [h92] at gx
  clear h92
  have gc := get_bt s (a + 1) hlt
  have c0 := bt_nonneg s (a + 1)
  have c1 := bt_le s (a + 1)
  have gx2 := beq_false_of_ne hx
  have gu := beq_false_of_ne hu
  obtain ⟨c, hc⟩ : ∃ c, c = bt s (a + 1) := ⟨_, rfl⟩
  rw [← hc] at gc c0 c1 hnm h8 gx2 gu
  clear hc hx hu
  by_cases h48 : 48 ≤ c
  · have h55 : ¬ c ≤ 55 := by omega
    clear h8
    go_enter Try.func42, Try.ntmps42
    go_wp2_with fail
    go_loopg [9] 9 (fun gn i wr => ∃ k : Nat, gn = 9 - k ∧ k ≤ 9 ∧ i = .int .i64 k ∧ Hid (Below w.heap.size w wr))
    case atStart => exact ⟨0, rfl, Nat.zero_le _, rfl, Lib.hid ((Below.refl _ _).alloc (Nat.le_refl _) _)⟩
    case round =>
      obtain ⟨k, hgn, hk, rfl, HW⟩ := hrel
      by_cases hk9 : k < 9
      · have gk := get_bt ({ data := #[98, 100, 101, 102, 110, 114, 115, 116, 118] } : ByteArray) k hk9
        have g1 := beq_false_of_ne (hnm.out k hk9)
        rw [show bt ({ data := #[98, 100, 101, 102, 110, 114, 115, 116, 118] } : ByteArray) k = bt nmS k from rfl] at gk
        obtain ⟨x, hx⟩ : ∃ x, x = bt nmS k := ⟨_, rfl⟩
        rw [← hx] at gk g1
        clear hx
        go_wp2_with fail
        go_roundg (9 - (k + 1))
        case measure => omega
        case rel => exact ⟨k + 1, rfl, hk9, by go_num, HW⟩
      · go_wp2_with fail
        refine (HR.out _).mono ?_
        rintro e w' ⟨rfl, q, rfl⟩
        go_wp2_with fail
        go_ret2
        exact ⟨rfl, HW.out.trans ((Below.ofDrewN _ _).mono HW.out.size)⟩
  · clear h8
    go_enter Try.func42, Try.ntmps42
    go_wp2_with fail
    go_loopg [9] 9 (fun gn i wr => ∃ k : Nat, gn = 9 - k ∧ k ≤ 9 ∧ i = .int .i64 k ∧ Hid (Below w.heap.size w wr))
    case atStart => exact ⟨0, rfl, Nat.zero_le _, rfl, Lib.hid ((Below.refl _ _).alloc (Nat.le_refl _) _)⟩
    case round =>
      obtain ⟨k, hgn, hk, rfl, HW⟩ := hrel
      by_cases hk9 : k < 9
      · have gk := get_bt ({ data := #[98, 100, 101, 102, 110, 114, 115, 116, 118] } : ByteArray) k hk9
        have g1 := beq_false_of_ne (hnm.out k hk9)
        rw [show bt ({ data := #[98, 100, 101, 102, 110, 114, 115, 116, 118] } : ByteArray) k = bt nmS k from rfl] at gk
        obtain ⟨x, hx⟩ : ∃ x, x = bt nmS k := ⟨_, rfl⟩
        rw [← hx] at gk g1
        clear hx
        go_wp2_with fail
        go_roundg (9 - (k + 1))
        case measure => omega
        case rel => exact ⟨k + 1, rfl, hk9, by go_num, HW⟩
      · go_wp2_with fail
        refine (HR.out _).mono ?_
        rintro e w' ⟨rfl, q, rfl⟩
        go_wp2_with fail
        go_ret2
        exact ⟨rfl, HW.out.trans ((Below.ofDrewN _ _).mono HW.out.size)⟩
end Go.Proofs.Ytaaijenbcfjdlaa
