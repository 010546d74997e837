/-
  The document's own Escape: octal digits, names and the like.
-/
import Derived.Test.YtaaijenbcfjdlaaRefEscX
/- The walks through the document's own Escape: letters, octal digits. -/
namespace Go.Proofs.Ytaaijenbcfjdlaa
open Go.RowKit Go.PlainAid

set_option maxRecDepth 100000 in
set_option maxHeartbeats 4000000 in
theorem resc_name (s : ByteArray) (a : Nat) (hs : s.size ≤ 1048576) (hlt : a + 1 < s.size) (h92 : bt s a = 92) (V : Int) (HN : Hid (∀ k, k < 9 → bt nmS k = bt s (a + 1) → nmM.getD k 0 = V)) (K : Nat) (hK : K < 9) (hKc : bt nmS K = bt s (a + 1)) : EscR s a V 2 := by
  intro w
  have g0 : ¬ (s.size : Int) - 1 ≤ (a : Int) := by omega
  have gx := get_bt s a (by omega)
  rw [h92] at gx
  clear h92
  have gc := get_bt s (a + 1) hlt
  have c0 := bt_nonneg s (a + 1)
  have c1 := bt_le s (a + 1)
  have HKC := Lib.hid hKc
  clear hKc
  obtain ⟨c, hc⟩ : ∃ c, c = bt s (a + 1) := ⟨_, rfl⟩
  rw [← hc] at gc c0 c1 HN HKC
  clear hc
  go_enter Try.func42, Try.ntmps42
  go_wp2_with fail
  go_loopg [9] K (fun gn i wr => ∃ k : Nat, gn = K - k ∧ k ≤ K ∧ i = .int .i64 k ∧ Hid (MeansAt w wr))
  case atStart => exact ⟨0, rfl, Nat.zero_le _, rfl, Lib.hid (means_at _ _ _ rfl)⟩
  case round =>
    obtain ⟨k, hgn, hk, rfl, HW⟩ := hrel
    have h9 : k < 9 := by omega
    have gk := get_bt ({ data := #[98, 100, 101, 102, 110, 114, 115, 116, 118] } : ByteArray) k h9
    have hcell := HW.out.1 k h9
    have HV := Lib.hid (HN.out k h9)
    have HE : Hid (K = k → bt nmS k = c) := fun h => by rw [← h]; exact HKC.out
    rw [show bt ({ data := #[98, 100, 101, 102, 110, 114, 115, 116, 118] } : ByteArray) k = bt nmS k from rfl] at gk
    obtain ⟨x, hx⟩ : ∃ x, x = bt nmS k := ⟨_, rfl⟩
    obtain ⟨y, hy⟩ : ∃ y, y = nmM.getD k 0 := ⟨_, rfl⟩
    rw [← hx] at gk HV HE
    rw [← hy] at hcell HV
    clear hx hy
    cases hv : (x == c)
    · have hne : K ≠ k := fun h => by rw [HE.out h] at hv; simp at hv
      go_wp2_with fail
      go_roundg (K - (k + 1))
      case measure => omega
      case rel => exact ⟨k + 1, rfl, by omega, by go_num, HW⟩
    · have HF : Hid (y = V) := HV.out (eq_of_beq hv)
      go_wp2_with fail
      go_ret2
      exact ⟨ret2I HF.out rfl, HW.out.2⟩
set_option maxRecDepth 100000 in
set_option maxHeartbeats 4000000 in
theorem resc_oct (s : ByteArray) (a : Nat) (hs : s.size ≤ 1048576) (hlt : a + 1 < s.size) (h92 : bt s a = 92) (hnm : Hid (∀ k, k < 9 → bt nmS k ≠ bt s (a + 1))) (h0 : 48 ≤ bt s (a + 1)) (h1 : bt s (a + 1) ≤ 55) (v : Int) (n : Nat) (hn : n ≤ 3) (HR : Hid (RunM s ((a : Int) + 1) 8 3 v n)) : EscR s a v (1 + n) := by
  intro w
  have g0 : ¬ (s.size : Int) - 1 ≤ (a : Int) := by omega
  have gx := get_bt s a (by omega)
  rw [h92] at gx
  clear h92
  have gc := get_bt s (a + 1) hlt
  have c0 := bt_nonneg s (a + 1)
  have c1 := bt_le s (a + 1)
  obtain ⟨c, hc⟩ : ∃ c, c = bt s (a + 1) := ⟨_, rfl⟩
  rw [← hc] at gc c0 c1 hnm h0 h1
  clear hc
  go_enter Try.func42, Try.ntmps42
  go_wp2_with fail
  go_loopg [9] 9 (fun gn i wr => ∃ k : Nat, gn = 9 - k ∧ k ≤ 9 ∧ i = .int .i64 k ∧ Hid (Below w.heap.size w wr))
  case atStart => exact ⟨0, rfl, Nat.zero_le _, rfl, Lib.hid ((Below.refl _ _).alloc (Nat.le_refl _) _)⟩
  case round =>
    obtain ⟨k, hgn, hk, rfl, HW⟩ := hrel
    by_cases hk9 : k < 9
    · have gk := get_bt ({ data := #[98, 100, 101, 102, 110, 114, 115, 116, 118] } : ByteArray) k hk9
      have g1 := beq_false_of_ne (hnm.out k hk9)
      rw [show bt ({ data := #[98, 100, 101, 102, 110, 114, 115, 116, 118] } : ByteArray) k = bt nmS k from rfl] at gk
      obtain ⟨x, hx⟩ : ∃ x, x = bt nmS k := ⟨_, rfl⟩
      rw [← hx] at gk g1
      clear hx
      go_wp2_with fail
      go_roundg (9 - (k + 1))
      case measure => omega
      case rel => exact ⟨k + 1, rfl, hk9, by go_num, HW⟩
    · go_wp2_with fail
      refine (HR.out _).mono ?_
      rintro e w' ⟨rfl, q, rfl⟩
      go_wp2_with fail
      go_ret2
      exact ⟨rfl, HW.out.trans ((Below.ofDrewN _ _).mono HW.out.size)⟩
end Go.Proofs.Ytaaijenbcfjdlaa
/- The walks through the document's own Escape: braces, 1. -/
namespace Go.Proofs.Ytaaijenbcfjdlaa
open Go.RowKit Go.PlainAid

set_option maxRecDepth 100000 in
set_option maxHeartbeats 4000000 in
theorem resc_xo_0 (s : ByteArray) (a : Nat) (hs : s.size ≤ 1048576) (hlt : a + 1 < s.size) (h92 : bt s a = 92) (hnm : Hid (∀ k, k < 9 → bt nmS k ≠ bt s (a + 1))) (hx : bt s (a + 1) = 120) (hlt2 : a + 2 < s.size) (hb : bt s (a + 2) = 123) (v : Int) (n : Nat) (hn : n ≤ 6) (HR : Hid (RunM s ((a : Int) + 3) 16 6 v n)) (h0 : n = 0) : EscR s a (-1) 0 := by
  subst h0
  intro w
  have g0 : ¬ (s.size : Int) - 1 ≤ (a : Int) := by omega
  have gx := get_bt s a (by omega)
  rw [h92] at gx
  clear h92
  have gc := get_bt s (a + 1) hlt
  have c0 := bt_nonneg s (a + 1)
  have c1 := bt_le s (a + 1)
  rw [hx] at gc hnm
  clear hx c0 c1
  have gd := get_bt s (a + 2) hlt2
  rw [hb] at gd
  clear hb
  go_enter Try.func42, Try.ntmps42
  go_wp2_with fail
  go_loopg [9] 9 (fun gn i wr => ∃ k : Nat, gn = 9 - k ∧ k ≤ 9 ∧ i = .int .i64 k ∧ Hid (Below w.heap.size w wr))
  case atStart => exact ⟨0, rfl, Nat.zero_le _, rfl, Lib.hid ((Below.refl _ _).alloc (Nat.le_refl _) _)⟩
  case round =>
    obtain ⟨k, hgn, hk, rfl, HW⟩ := hrel
    by_cases hk9 : k < 9
    · have gk := get_bt ({ data := #[98, 100, 101, 102, 110, 114, 115, 116, 118] } : ByteArray) k hk9
      have g1 := beq_false_of_ne (hnm.out k hk9)
      rw [show bt ({ data := #[98, 100, 101, 102, 110, 114, 115, 116, 118] } : ByteArray) k = bt nmS k from rfl] at gk
      obtain ⟨x, hx⟩ : ∃ x, x = bt nmS k := ⟨_, rfl⟩
      rw [← hx] at gk g1
      clear hx
      go_wp2_with fail
      go_roundg (9 - (k + 1))
      case measure => omega
      case rel => exact ⟨k + 1, rfl, hk9, by go_num, HW⟩
    · go_wp2_with fail
      refine (HR.out _).mono ?_
      rintro e w' ⟨rfl, q, rfl⟩
      go_wp2_with fail
      go_ret2
      exact ⟨rfl, HW.out.trans ((Below.ofDrewN _ _).mono HW.out.size)⟩
set_option maxRecDepth 100000 in
set_option maxHeartbeats 4000000 in
theorem resc_xo_1 (s : ByteArray) (a : Nat) (hs : s.size ≤ 1048576) (hlt : a + 1 < s.size) (h92 : bt s a = 92) (hnm : Hid (∀ k, k < 9 → bt nmS k ≠ bt s (a + 1))) (hx : bt s (a + 1) = 120) (hlt2 : a + 2 < s.size) (hb : bt s (a + 2) = 123) (v : Int) (n : Nat) (hn : n ≤ 6) (HR : Hid (RunM s ((a : Int) + 3) 16 6 v n)) (h0 : 0 < n) (h1 : s.size ≤ a + 3 + n) : EscR s a (-1) 0 := by
  intro w
  have g0 : ¬ (s.size : Int) - 1 ≤ (a : Int) := by omega
  have gx := get_bt s a (by omega)
  rw [h92] at gx
  clear h92
  have gc := get_bt s (a + 1) hlt
  have c0 := bt_nonneg s (a + 1)
  have c1 := bt_le s (a + 1)
  rw [hx] at gc hnm
  clear hx c0 c1
  have gd := get_bt s (a + 2) hlt2
  rw [hb] at gd
  clear hb
  have gn : ((n : Int) == 0) = false := beq_false_of_ne (by omega)
  go_enter Try.func42, Try.ntmps42
  go_wp2_with fail
  go_loopg [9] 9 (fun gn i wr => ∃ k : Nat, gn = 9 - k ∧ k ≤ 9 ∧ i = .int .i64 k ∧ Hid (Below w.heap.size w wr))
  case atStart => exact ⟨0, rfl, Nat.zero_le _, rfl, Lib.hid ((Below.refl _ _).alloc (Nat.le_refl _) _)⟩
  case round =>
    obtain ⟨k, hgn, hk, rfl, HW⟩ := hrel
    by_cases hk9 : k < 9
    · have gk := get_bt ({ data := #[98, 100, 101, 102, 110, 114, 115, 116, 118] } : ByteArray) k hk9
      have g1 := beq_false_of_ne (hnm.out k hk9)
      rw [show bt ({ data := #[98, 100, 101, 102, 110, 114, 115, 116, 118] } : ByteArray) k = bt nmS k from rfl] at gk
      obtain ⟨x, hx⟩ : ∃ x, x = bt nmS k := ⟨_, rfl⟩
      rw [← hx] at gk g1
      clear hx
      go_wp2_with fail
      go_roundg (9 - (k + 1))
      case measure => omega
      case rel => exact ⟨k + 1, rfl, hk9, by go_num, HW⟩
    · go_wp2_with fail
      refine (HR.out _).mono ?_
      rintro e w' ⟨rfl, q, rfl⟩
      go_wp2_with fail
      go_ret2
      exact ⟨rfl, HW.out.trans ((Below.ofDrewN _ _).mono HW.out.size)⟩
set_option maxRecDepth 100000 in
set_option maxHeartbeats 4000000 in
theorem resc_xo_2 (s : ByteArray) (a : Nat) (hs : s.size ≤ 1048576) (hlt : a + 1 < s.size) (h92 : bt s a = 92) (hnm : Hid (∀ k, k < 9 → bt nmS k ≠ bt s (a + 1))) (hx : bt s (a + 1) = 120) (hlt2 : a + 2 < s.size) (hb : bt s (a + 2) = 123) (v : Int) (n : Nat) (hn : n ≤ 6) (HR : Hid (RunM s ((a : Int) + 3) 16 6 v n)) (h0 : 0 < n) (h1 : a + 3 + n < s.size) (h125 : bt s (a + 3 + n) ≠ 125) : EscR s a (-1) 0 := by
  intro w
  have g0 : ¬ (s.size : Int) - 1 ≤ (a : Int) := by omega
  have gx := get_bt s a (by omega)
  rw [h92] at gx
  clear h92
  have gc := get_bt s (a + 1) hlt
  have c0 := bt_nonneg s (a + 1)
  have c1 := bt_le s (a + 1)
  rw [hx] at gc hnm
  clear hx c0 c1
  have gd := get_bt s (a + 2) hlt2
  rw [hb] at gd
  clear hb
  have gn : ((n : Int) == 0) = false := beq_false_of_ne (by omega)
  have ge := get_bt s (a + 3 + n) h1
  have g125 : (bt s (a + 3 + n) != 125) = true := by simpa using h125
  obtain ⟨z, hz⟩ : ∃ z, z = bt s (a + 3 + n) := ⟨_, rfl⟩
  rw [← hz] at ge g125
  clear hz h125
  go_enter Try.func42, Try.ntmps42
  go_wp2_with fail
  go_loopg [9] 9 (fun gn i wr => ∃ k : Nat, gn = 9 - k ∧ k ≤ 9 ∧ i = .int .i64 k ∧ Hid (Below w.heap.size w wr))
  case atStart => exact ⟨0, rfl, Nat.zero_le _, rfl, Lib.hid ((Below.refl _ _).alloc (Nat.le_refl _) _)⟩
  case round =>
    obtain ⟨k, hgn, hk, rfl, HW⟩ := hrel
    by_cases hk9 : k < 9
    · have gk := get_bt ({ data := #[98, 100, 101, 102, 110, 114, 115, 116, 118] } : ByteArray) k hk9
      have g1 := beq_false_of_ne (hnm.out k hk9)
      rw [show bt ({ data := #[98, 100, 101, 102, 110, 114, 115, 116, 118] } : ByteArray) k = bt nmS k from rfl] at gk
      obtain ⟨x, hx⟩ : ∃ x, x = bt nmS k := ⟨_, rfl⟩
      rw [← hx] at gk g1
      clear hx
      go_wp2_with fail
      go_roundg (9 - (k + 1))
      case measure => omega
      case rel => exact ⟨k + 1, rfl, hk9, by go_num, HW⟩
    · go_wp2_with fail
      refine (HR.out _).mono ?_
      rintro e w' ⟨rfl, q, rfl⟩
      go_wp2_with fail
      go_ret2
      exact ⟨rfl, HW.out.trans ((Below.ofDrewN _ _).mono HW.out.size)⟩
end Go.Proofs.Ytaaijenbcfjdlaa
/- The walks through the document's own Escape: braces, 2. -/
namespace Go.Proofs.Ytaaijenbcfjdlaa
open Go.RowKit Go.PlainAid

set_option maxRecDepth 100000 in
set_option maxHeartbeats 4000000 in
theorem resc_xo_3 (s : ByteArray) (a : Nat) (hs : s.size ≤ 1048576) (hlt : a + 1 < s.size) (h92 : bt s a = 92) (hnm : Hid (∀ k, k < 9 → bt nmS k ≠ bt s (a + 1))) (hx : bt s (a + 1) = 120) (hlt2 : a + 2 < s.size) (hb : bt s (a + 2) = 123) (v : Int) (n : Nat) (hn : n ≤ 6) (HR : Hid (RunM s ((a : Int) + 3) 16 6 v n)) (h0 : 0 < n) (h1 : a + 3 + n < s.size) (h125 : bt s (a + 3 + n) = 125) (hp : isPt v = false) : EscR s a (-1) 0 := by
  intro w
  have g0 : ¬ (s.size : Int) - 1 ≤ (a : Int) := by omega
  have gx := get_bt s a (by omega)
  rw [h92] at gx
  clear h92
  have gc := get_bt s (a + 1) hlt
  have c0 := bt_nonneg s (a + 1)
  have c1 := bt_le s (a + 1)
  rw [hx] at gc hnm
  clear hx c0 c1
  have gd := get_bt s (a + 2) hlt2
  rw [hb] at gd
  clear hb
  have gn : ((n : Int) == 0) = false := beq_false_of_ne (by omega)
  have ge := get_bt s (a + 3 + n) h1
  rw [h125] at ge
  clear h125
  have HP := Lib.hid (fun W => rpoint_no v W hp)
  clear hp
  go_enter Try.func42, Try.ntmps42
  go_wp2_with fail
  go_loopg [9] 9 (fun gn i wr => ∃ k : Nat, gn = 9 - k ∧ k ≤ 9 ∧ i = .int .i64 k ∧ Hid (Below w.heap.size w wr))
  case atStart => exact ⟨0, rfl, Nat.zero_le _, rfl, Lib.hid ((Below.refl _ _).alloc (Nat.le_refl _) _)⟩
  case round =>
    obtain ⟨k, hgn, hk, rfl, HW⟩ := hrel
    by_cases hk9 : k < 9
    · have gk := get_bt ({ data := #[98, 100, 101, 102, 110, 114, 115, 116, 118] } : ByteArray) k hk9
      have g1 := beq_false_of_ne (hnm.out k hk9)
      rw [show bt ({ data := #[98, 100, 101, 102, 110, 114, 115, 116, 118] } : ByteArray) k = bt nmS k from rfl] at gk
      obtain ⟨x, hx⟩ : ∃ x, x = bt nmS k := ⟨_, rfl⟩
      rw [← hx] at gk g1
      clear hx
      go_wp2_with fail
      go_roundg (9 - (k + 1))
      case measure => omega
      case rel => exact ⟨k + 1, rfl, hk9, by go_num, HW⟩
    · go_wp2_with fail
      refine (HR.out _).mono ?_
      rintro e w' ⟨rfl, q, rfl⟩
      go_wp2_with fail
      refine (HP.out _).mono ?_
      rintro e w' ⟨rfl, rfl⟩
      go_wp2_with fail
      go_ret2
      exact ⟨rfl, HW.out.trans ((Below.ofDrewN _ _).mono HW.out.size)⟩
set_option maxRecDepth 100000 in
set_option maxHeartbeats 4000000 in
theorem resc_xo_4 (s : ByteArray) (a : Nat) (hs : s.size ≤ 1048576) (hlt : a + 1 < s.size) (h92 : bt s a = 92) (hnm : Hid (∀ k, k < 9 → bt nmS k ≠ bt s (a + 1))) (hx : bt s (a + 1) = 120) (hlt2 : a + 2 < s.size) (hb : bt s (a + 2) = 123) (v : Int) (n : Nat) (hn : n ≤ 6) (HR : Hid (RunM s ((a : Int) + 3) 16 6 v n)) (h0 : 0 < n) (h1 : a + 3 + n < s.size) (h125 : bt s (a + 3 + n) = 125) (hp : isPt v = true) : EscR s a v (4 + n) := by
  intro w
  have g0 : ¬ (s.size : Int) - 1 ≤ (a : Int) := by omega
  have gx := get_bt s a (by omega)
  rw [h92] at gx
  clear h92
  have gc := get_bt s (a + 1) hlt
  have c0 := bt_nonneg s (a + 1)
  have c1 := bt_le s (a + 1)
  rw [hx] at gc hnm
  clear hx c0 c1
  have gd := get_bt s (a + 2) hlt2
  rw [hb] at gd
  clear hb
  have gn : ((n : Int) == 0) = false := beq_false_of_ne (by omega)
  have ge := get_bt s (a + 3 + n) h1
  rw [h125] at ge
  clear h125
  have HP := Lib.hid (fun W => rpoint_yes v W hp)
  clear hp
  go_enter Try.func42, Try.ntmps42
  go_wp2_with fail
  go_loopg [9] 9 (fun gn i wr => ∃ k : Nat, gn = 9 - k ∧ k ≤ 9 ∧ i = .int .i64 k ∧ Hid (Below w.heap.size w wr))
  case atStart => exact ⟨0, rfl, Nat.zero_le _, rfl, Lib.hid ((Below.refl _ _).alloc (Nat.le_refl _) _)⟩
  case round =>
    obtain ⟨k, hgn, hk, rfl, HW⟩ := hrel
    by_cases hk9 : k < 9
    · have gk := get_bt ({ data := #[98, 100, 101, 102, 110, 114, 115, 116, 118] } : ByteArray) k hk9
      have g1 := beq_false_of_ne (hnm.out k hk9)
      rw [show bt ({ data := #[98, 100, 101, 102, 110, 114, 115, 116, 118] } : ByteArray) k = bt nmS k from rfl] at gk
      obtain ⟨x, hx⟩ : ∃ x, x = bt nmS k := ⟨_, rfl⟩
      rw [← hx] at gk g1
      clear hx
      go_wp2_with fail
      go_roundg (9 - (k + 1))
      case measure => omega
      case rel => exact ⟨k + 1, rfl, hk9, by go_num, HW⟩
    · go_wp2_with fail
      refine (HR.out _).mono ?_
      rintro e w' ⟨rfl, q, rfl⟩
      go_wp2_with fail
      refine (HP.out _).mono ?_
      rintro e w' ⟨rfl, rfl⟩
      go_wp2_with fail
      go_ret2
      exact ⟨rfl, HW.out.trans ((Below.ofDrewN _ _).mono HW.out.size)⟩
end Go.Proofs.Ytaaijenbcfjdlaa
