/-
  The walks through the document's own Escape: control characters.
-/
import Derived.Test.YtaaijenbcfjdlaaRefEscX
namespace Go.Proofs.Ytaaijenbcfjdlaa
open Go.RowKit Go.PlainAid

set_option maxRecDepth 100000 in
set_option maxHeartbeats 4000000 in
theorem resc_ct_0 (s : ByteArray) (a : Nat) (hs : s.size ≤ 1048576) (hlt : a + 1 < s.size) (h92 : bt s a = 92) (hnm : Hid (∀ k, k < 9 → bt nmS k ≠ bt s (a + 1))) (hx : bt s (a + 1) = 94) (hb : s.size ≤ a + 2) : EscR s a (-1) 0 := by
  intro w
  have g0 : ¬ (s.size : Int) - 1 ≤ (a : Int) := by omega
  have gx := get_bt s a (by omega)
  rw [h92] at gx
  clear h92
  have gc := get_bt s (a + 1) hlt
  have c0 := bt_nonneg s (a + 1)
  have c1 := bt_le s (a + 1)
  rw [hx] at gc hnm
  clear hx c0 c1
  go_enter Try.func42, Try.ntmps42
  go_wp2_with fail
  go_loopg [9] 9 (fun gn i wr => ∃ k : Nat, gn = 9 - k ∧ k ≤ 9 ∧ i = .int .i64 k ∧ Hid (Below w.heap.size w wr))
  case atStart => exact ⟨0, rfl, Nat.zero_le _, rfl, Lib.hid ((Below.refl _ _).alloc (Nat.le_refl _) _)⟩
  case round =>
    obtain ⟨k, hgn, hk, rfl, HW⟩ := hrel
    by_cases hk9 : k < 9
    · have gk := get_bt ({ data := #[98, 100, 101, 102, 110, 114, 115, 116, 118] } : ByteArray) k hk9
      have g1 := beq_false_of_ne (hnm.out k hk9)
      rw [show bt ({ data := #[98, 100, 101, 102, 110, 114, 115, 116, 118] } : ByteArray) k = bt nmS k from rfl] at gk
      obtain ⟨x, hx⟩ : ∃ x, x = bt nmS k := ⟨_, rfl⟩
      rw [← hx] at gk g1
      clear hx
      go_wp2_with fail
      go_roundg (9 - (k + 1))
      case measure => omega
      case rel => exact ⟨k + 1, rfl, hk9, by go_num, HW⟩
    · go_wp2_with fail
      go_ret2
      exact ⟨rfl, HW.out⟩
set_option maxRecDepth 100000 in
set_option maxHeartbeats 4000000 in
theorem resc_ct_1 (s : ByteArray) (a : Nat) (hs : s.size ≤ 1048576) (hlt : a + 1 < s.size) (h92 : bt s a = 92) (hnm : Hid (∀ k, k < 9 → bt nmS k ≠ bt s (a + 1))) (hx : bt s (a + 1) = 94) (hlt2 : a + 2 < s.size) (h : bt s (a + 2) < 64 ∨ bt s (a + 2) = 96 ∨ 122 < bt s (a + 2)) : EscR s a (-1) 0 := by
  intro w
  have g0 : ¬ (s.size : Int) - 1 ≤ (a : Int) := by omega
  have gx := get_bt s a (by omega)
  rw [h92] at gx
  clear h92
  have gc := get_bt s (a + 1) hlt
  have c0 := bt_nonneg s (a + 1)
  have c1 := bt_le s (a + 1)
  rw [hx] at gc hnm
  clear hx c0 c1
  have gd := get_bt s (a + 2) hlt2
  have d0 := bt_nonneg s (a + 2)
  have d1 := bt_le s (a + 2)
  have e31 := i64_and31 (bt s (a + 2)) d0 (by omega)
  obtain ⟨d, hd⟩ : ∃ d, d = bt s (a + 2) := ⟨_, rfl⟩
  rw [← hd] at gd d0 d1 e31 h
  clear hd
  rcases h with h | h | h
  · have h1 : ¬ 97 ≤ d := by omega
    go_enter Try.func42, Try.ntmps42
    go_wp2_with fail
    go_loopg [9] 9 (fun gn i wr => ∃ k : Nat, gn = 9 - k ∧ k ≤ 9 ∧ i = .int .i64 k ∧ Hid (Below w.heap.size w wr))
    case atStart => exact ⟨0, rfl, Nat.zero_le _, rfl, Lib.hid ((Below.refl _ _).alloc (Nat.le_refl _) _)⟩
    case round =>
      obtain ⟨k, hgn, hk, rfl, HW⟩ := hrel
      by_cases hk9 : k < 9
      · have gk := get_bt ({ data := #[98, 100, 101, 102, 110, 114, 115, 116, 118] } : ByteArray) k hk9
        have g1 := beq_false_of_ne (hnm.out k hk9)
        rw [show bt ({ data := #[98, 100, 101, 102, 110, 114, 115, 116, 118] } : ByteArray) k = bt nmS k from rfl] at gk
        obtain ⟨x, hx⟩ : ∃ x, x = bt nmS k := ⟨_, rfl⟩
        rw [← hx] at gk g1
        clear hx
        go_wp2_with fail
        go_roundg (9 - (k + 1))
        case measure => omega
        case rel => exact ⟨k + 1, rfl, hk9, by go_num, HW⟩
      · go_wp2_with fail
        go_ret2
        exact ⟨rfl, HW.out⟩
  · subst h
    go_enter Try.func42, Try.ntmps42
    go_wp2_with fail
    go_loopg [9] 9 (fun gn i wr => ∃ k : Nat, gn = 9 - k ∧ k ≤ 9 ∧ i = .int .i64 k ∧ Hid (Below w.heap.size w wr))
    case atStart => exact ⟨0, rfl, Nat.zero_le _, rfl, Lib.hid ((Below.refl _ _).alloc (Nat.le_refl _) _)⟩
    case round =>
      obtain ⟨k, hgn, hk, rfl, HW⟩ := hrel
      by_cases hk9 : k < 9
      · have gk := get_bt ({ data := #[98, 100, 101, 102, 110, 114, 115, 116, 118] } : ByteArray) k hk9
        have g1 := beq_false_of_ne (hnm.out k hk9)
        rw [show bt ({ data := #[98, 100, 101, 102, 110, 114, 115, 116, 118] } : ByteArray) k = bt nmS k from rfl] at gk
        obtain ⟨x, hx⟩ : ∃ x, x = bt nmS k := ⟨_, rfl⟩
        rw [← hx] at gk g1
        clear hx
        go_wp2_with fail
        go_roundg (9 - (k + 1))
        case measure => omega
        case rel => exact ⟨k + 1, rfl, hk9, by go_num, HW⟩
      · go_wp2_with fail
        go_ret2
        exact ⟨rfl, HW.out⟩
  · have h1 : ¬ d ≤ 122 := by omega
    have h2 : ¬ d ≤ 95 := by omega
    have h3 : 64 ≤ d := by omega
    have h4 : 97 ≤ d := by omega
    clear h
    go_enter Try.func42, Try.ntmps42
    go_wp2_with fail
    go_loopg [9] 9 (fun gn i wr => ∃ k : Nat, gn = 9 - k ∧ k ≤ 9 ∧ i = .int .i64 k ∧ Hid (Below w.heap.size w wr))
    case atStart => exact ⟨0, rfl, Nat.zero_le _, rfl, Lib.hid ((Below.refl _ _).alloc (Nat.le_refl _) _)⟩
    case round =>
      obtain ⟨k, hgn, hk, rfl, HW⟩ := hrel
      by_cases hk9 : k < 9
      · have gk := get_bt ({ data := #[98, 100, 101, 102, 110, 114, 115, 116, 118] } : ByteArray) k hk9
        have g1 := beq_false_of_ne (hnm.out k hk9)
        rw [show bt ({ data := #[98, 100, 101, 102, 110, 114, 115, 116, 118] } : ByteArray) k = bt nmS k from rfl] at gk
        obtain ⟨x, hx⟩ : ∃ x, x = bt nmS k := ⟨_, rfl⟩
        rw [← hx] at gk g1
        clear hx
        go_wp2_with fail
        go_roundg (9 - (k + 1))
        case measure => omega
        case rel => exact ⟨k + 1, rfl, hk9, by go_num, HW⟩
      · go_wp2_with fail
        go_ret2
        exact ⟨rfl, HW.out⟩
        exfalso
        rename_i hh
        have h5 := hh.2
        simp at h5
        omega
set_option maxRecDepth 100000 in
set_option maxHeartbeats 4000000 in
theorem resc_ct_2 (s : ByteArray) (a : Nat) (hs : s.size ≤ 1048576) (hlt : a + 1 < s.size) (h92 : bt s a = 92) (hnm : Hid (∀ k, k < 9 → bt nmS k ≠ bt s (a + 1))) (hx : bt s (a + 1) = 94) (hlt2 : a + 2 < s.size) (h : (64 ≤ bt s (a + 2) ∧ bt s (a + 2) ≤ 95) ∨ (97 ≤ bt s (a + 2) ∧ bt s (a + 2) ≤ 122)) : EscR s a (bt s (a + 2) % 32) 3 := by
  intro w
  have g0 : ¬ (s.size : Int) - 1 ≤ (a : Int) := by omega
  have gx := get_bt s a (by omega)
  rw [h92] at gx
  clear h92
  have gc := get_bt s (a + 1) hlt
  have c0 := bt_nonneg s (a + 1)
  have c1 := bt_le s (a + 1)
  rw [hx] at gc hnm
  clear hx c0 c1
  have gd := get_bt s (a + 2) hlt2
  have d0 := bt_nonneg s (a + 2)
  have d1 := bt_le s (a + 2)
  have e31 := i64_and31 (bt s (a + 2)) d0 (by omega)
  obtain ⟨d, hd⟩ : ∃ d, d = bt s (a + 2) := ⟨_, rfl⟩
  rw [← hd] at gd d0 d1 e31 h ⊢
  clear hd
  rcases h with ⟨h, h'⟩ | ⟨h, h'⟩
  · have h1 : ¬ 97 ≤ d := by omega
    go_enter Try.func42, Try.ntmps42
    go_wp2_with fail
    go_loopg [9] 9 (fun gn i wr => ∃ k : Nat, gn = 9 - k ∧ k ≤ 9 ∧ i = .int .i64 k ∧ Hid (Below w.heap.size w wr))
    case atStart => exact ⟨0, rfl, Nat.zero_le _, rfl, Lib.hid ((Below.refl _ _).alloc (Nat.le_refl _) _)⟩
    case round =>
      obtain ⟨k, hgn, hk, rfl, HW⟩ := hrel
      by_cases hk9 : k < 9
      · have gk := get_bt ({ data := #[98, 100, 101, 102, 110, 114, 115, 116, 118] } : ByteArray) k hk9
        have g1 := beq_false_of_ne (hnm.out k hk9)
        rw [show bt ({ data := #[98, 100, 101, 102, 110, 114, 115, 116, 118] } : ByteArray) k = bt nmS k from rfl] at gk
        obtain ⟨x, hx⟩ : ∃ x, x = bt nmS k := ⟨_, rfl⟩
        rw [← hx] at gk g1
        clear hx
        go_wp2_with fail
        go_roundg (9 - (k + 1))
        case measure => omega
        case rel => exact ⟨k + 1, rfl, hk9, by go_num, HW⟩
      · go_wp2_with fail
        go_ret2
        exact ⟨rfl, HW.out⟩
  · have h1 : ¬ d ≤ 95 := by omega
    have h2 : 64 ≤ d := by omega
    go_enter Try.func42, Try.ntmps42
    go_wp2_with fail
    go_loopg [9] 9 (fun gn i wr => ∃ k : Nat, gn = 9 - k ∧ k ≤ 9 ∧ i = .int .i64 k ∧ Hid (Below w.heap.size w wr))
    case atStart => exact ⟨0, rfl, Nat.zero_le _, rfl, Lib.hid ((Below.refl _ _).alloc (Nat.le_refl _) _)⟩
    case round =>
      obtain ⟨k, hgn, hk, rfl, HW⟩ := hrel
      by_cases hk9 : k < 9
      · have gk := get_bt ({ data := #[98, 100, 101, 102, 110, 114, 115, 116, 118] } : ByteArray) k hk9
        have g1 := beq_false_of_ne (hnm.out k hk9)
        rw [show bt ({ data := #[98, 100, 101, 102, 110, 114, 115, 116, 118] } : ByteArray) k = bt nmS k from rfl] at gk
        obtain ⟨x, hx⟩ : ∃ x, x = bt nmS k := ⟨_, rfl⟩
        rw [← hx] at gk g1
        clear hx
        go_wp2_with fail
        go_roundg (9 - (k + 1))
        case measure => omega
        case rel => exact ⟨k + 1, rfl, hk9, by go_num, HW⟩
      · go_wp2_with fail
        go_ret2
        exact ⟨rfl, HW.out⟩
end Go.Proofs.Ytaaijenbcfjdlaa
