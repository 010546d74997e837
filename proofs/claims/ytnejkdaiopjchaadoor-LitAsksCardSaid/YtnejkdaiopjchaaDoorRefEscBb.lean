/-
  The walks through the document's own Escape: braces, 2.
-/
import Derived.Test.YtnejkdaiopjchaaDoorRefEscDef
namespace Go.Proofs.YtnejkdaiopjchaaDoor
open Go.RowKit Go.PlainAid

set_option maxRecDepth 100000 in
set_option maxHeartbeats 4000000 in
theorem resc_xo_3 (s : ByteArray) (a : Nat) (hs : s.size ≤ 1048576) (hlt : a + 1 < s.size) (h92 : bt s a = 92) (hnm : Hid (∀ k, k < 9 → bt nmS k ≠ bt s (a + 1))) (hx : bt s (a + 1) = 120) (hlt2 : a + 2 < s.size) (hb : bt s (a + 2) = 123) (v : Int) (n : Nat) (hn : n ≤ 6) (HR : Hid (RunM s ((a : Int) + 3) 16 6 v n)) (h0 : 0 < n) (h1 : a + 3 + n < s.size) (h125 : bt s (a + 3 + n) = 125) (hp : isPt v = false) : EscR s a (-1) 0 := by
  intro w
  have g0 : ¬ (s.size : Int) - 1 ≤ (a : Int) := by omega
  have gx := get_bt s a (by omega)
  rw [h92] at gx
  clear h92
  have gc := get_bt s (a + 1) hlt
  have c0 := bt_nonneg s (a + 1)
  have c1 := bt_le s (a + 1)
  rw [hx] at gc hnm
  clear hx c0 c1
  have gd := get_bt s (a + 2) hlt2
  rw [hb] at gd
  clear hb
  have gn : ((n : Int) == 0) = false := beq_false_of_ne (by omega)
  have ge := get_bt s (a + 3 + n) h1
  rw [h125] at ge
  clear h125
  have HP := Lib.hid (fun W => rpoint_no v W hp)
  clear hp
  go_enter Tryd.func14, Tryd.ntmps14
  go_wp2_with fail
  go_loopg [9] 9 (fun gn i wr => ∃ k : Nat, gn = 9 - k ∧ k ≤ 9 ∧ i = .int .i64 k ∧ Hid (Below w.heap.size w wr))
  case atStart => exact ⟨0, rfl, Nat.zero_le _, rfl, Lib.hid ((Below.refl _ _).alloc (Nat.le_refl _) _)⟩
  case round =>
    obtain ⟨k, hgn, hk, rfl, HW⟩ := hrel
    by_cases hk9 : k < 9
    · have gk := get_bt ({ data := #[98, 100, 101, 102, 110, 114, 115, 116, 118] } : ByteArray) k hk9
      have g1 := beq_false_of_ne (hnm.out k hk9)
      rw [show bt ({ data := #[98, 100, 101, 102, 110, 114, 115, 116, 118] } : ByteArray) k = bt nmS k from rfl] at gk
      obtain ⟨x, hx⟩ : ∃ x, x = bt nmS k := ⟨_, rfl⟩
      rw [← hx] at gk g1
      clear hx
      go_wp2_with fail
      go_roundg (9 - (k + 1))
      case measure => omega
      case rel => exact ⟨k + 1, rfl, hk9, by go_num, HW⟩
    · go_wp2_with fail
      refine (HR.out _).mono ?_
      rintro e w' ⟨rfl, q, rfl⟩
      go_wp2_with fail
      refine (HP.out _).mono ?_
      rintro e w' ⟨rfl, rfl⟩
      go_wp2_with fail
      go_ret2
      exact ⟨rfl, HW.out.trans ((Below.ofDrewN _ _).mono HW.out.size)⟩
set_option maxRecDepth 100000 in
set_option maxHeartbeats 4000000 in
theorem resc_xo_4 (s : ByteArray) (a : Nat) (hs : s.size ≤ 1048576) (hlt : a + 1 < s.size) (h92 : bt s a = 92) (hnm : Hid (∀ k, k < 9 → bt nmS k ≠ bt s (a + 1))) (hx : bt s (a + 1) = 120) (hlt2 : a + 2 < s.size) (hb : bt s (a + 2) = 123) (v : Int) (n : Nat) (hn : n ≤ 6) (HR : Hid (RunM s ((a : Int) + 3) 16 6 v n)) (h0 : 0 < n) (h1 : a + 3 + n < s.size) (h125 : bt s (a + 3 + n) = 125) (hp : isPt v = true) : EscR s a v (4 + n) := by
  intro w
  have g0 : ¬ (s.size : Int) - 1 ≤ (a : Int) := by omega
  have gx := get_bt s a (by omega)
  rw [h92] at gx
  clear h92
  have gc := get_bt s (a + 1) hlt
  have c0 := bt_nonneg s (a + 1)
  have c1 := bt_le s (a + 1)
  rw [hx] at gc hnm
  clear hx c0 c1
  have gd := get_bt s (a + 2) hlt2
  rw [hb] at gd
  clear hb
  have gn : ((n : Int) == 0) = false := beq_false_of_ne (by omega)
  have ge := get_bt s (a + 3 + n) h1
  rw [h125] at ge
  clear h125
  have HP := Lib.hid (fun W => rpoint_yes v W hp)
  clear hp
  go_enter Tryd.func14, Tryd.ntmps14
  go_wp2_with fail
  go_loopg [9] 9 (fun gn i wr => ∃ k : Nat, gn = 9 - k ∧ k ≤ 9 ∧ i = .int .i64 k ∧ Hid (Below w.heap.size w wr))
  case atStart => exact ⟨0, rfl, Nat.zero_le _, rfl, Lib.hid ((Below.refl _ _).alloc (Nat.le_refl _) _)⟩
  case round =>
    obtain ⟨k, hgn, hk, rfl, HW⟩ := hrel
    by_cases hk9 : k < 9
    · have gk := get_bt ({ data := #[98, 100, 101, 102, 110, 114, 115, 116, 118] } : ByteArray) k hk9
      have g1 := beq_false_of_ne (hnm.out k hk9)
      rw [show bt ({ data := #[98, 100, 101, 102, 110, 114, 115, 116, 118] } : ByteArray) k = bt nmS k from rfl] at gk
      obtain ⟨x, hx⟩ : ∃ x, x = bt nmS k := ⟨_, rfl⟩
      rw [← hx] at gk g1
      clear hx
      go_wp2_with fail
      go_roundg (9 - (k + 1))
      case measure => omega
      case rel => exact ⟨k + 1, rfl, hk9, by go_num, HW⟩
    · go_wp2_with fail
      refine (HR.out _).mono ?_
      rintro e w' ⟨rfl, q, rfl⟩
      go_wp2_with fail
      refine (HP.out _).mono ?_
      rintro e w' ⟨rfl, rfl⟩
      go_wp2_with fail
      go_ret2
      exact ⟨rfl, HW.out.trans ((Below.ofDrewN _ _).mono HW.out.size)⟩
end Go.Proofs.YtnejkdaiopjchaaDoor
